/- Texts of this seat, put together: Dh, Das, Dsl, Dpm, Dno, Dam. -/
import Derived.Test.YtgalhfnejhboaaaDoorGE4
import Derived.Test.YtgalhfnejhboaaaDoorGA1
import Derived.Test.YtgalhfnejhboaaaDoorGF0
import Derived.Test.YtgalhfnejhboaaaDoorGF1
/- The program's Right, Plain of documents. -/
namespace Go.Proofs.YtgalhfnejhboaaaDoor
open Go.RowKit Rn Ch

set_option maxRecDepth 100000 in
theorem rightDoc_any (v : Value) (ps : List RP) (w : World) (hv : RunRow w v ps) (hz : RSized (ps.map (·.1))) :
    Calls Tryd.prog 48 #[v] w fun e w' => e = .returned (.int .i64 (lenE (ps.map (·.1)))) ∧ Below w.heap.size w w' := by
  have HC := Lib.hid (length_any v ps w hv hz)
  clear hv hz
  go_enter Tryd.func48, Tryd.ntmps48
  go_wp2_with fail
  refine HC.out.mono ?_
  rintro e w1 ⟨rfl, hb⟩
  go_wp2_with fail
  go_ret
  exact ⟨rfl, hb⟩
def plainT : List RunD → List UInt8
  | [] => []
  | r :: s => r.text.data.toList ++ plainT s
theorem builderAt_below {T e : TypeId} {B b : Nat} {p : Value} {bs : List Value} {W W' : World} (h : Lib.BuilderAt T e B b p bs W) (hb : Below W.heap.size W W') : Lib.BuilderAt T e B b p bs W' := by
  have hlt := h.lt
  obtain ⟨hB, v, hv, hown, hne⟩ := h
  exact ⟨hB, v, (hb.block b hlt).trans hv, own_cells hown (fun i cs fr hi => (hb.block _ (lt_of_heap hi)).trans hi), hne⟩
theorem isBuilder_below {T e : TypeId} {B b : Nat} {bs : List Value} {W W' : World} (h : Lib.IsBuilder T e B b bs W) (hb : Below W.heap.size W W') : Lib.IsBuilder T e B b bs W' :=
  h.elim (fun x => .inl (builderAt_below x hb)) (fun x => .inr (builderAt_below x hb))
theorem plainT_append (a b : List RunD) : plainT (a ++ b) = plainT a ++ plainT b := by
  induction a with
  | nil => rfl
  | cons x r ih => rw [List.cons_append, plainT, plainT, ih, List.append_assoc]
theorem plainT_size {l : List RunD} (h : ∀ r ∈ l, r.text.size ≤ 80000) : (plainT l).length ≤ l.length * 80000 := by
  induction l with
  | nil => exact Nat.le_refl _
  | cons x r ih =>
    have h1 := h x (List.mem_cons_self ..)
    have h2 := ih fun y hy => h y (List.mem_cons_of_mem _ hy)
    rw [plainT, List.length_append, List.length_cons]
    have h3 : x.text.data.toList.length = x.text.size := rfl
    omega
set_option maxRecDepth 100000 in
set_option maxHeartbeats 4000000 in
theorem plain_doc (v : Value) (ps : List RP) (w : World) (hv : RunRow w v ps) (hz : RSized (ps.map (·.1))) (h0 : lenE (ps.map (·.1)) = 0) (hl : ps.length ≤ 2000) (ht : ∀ p ∈ ps, p.1.text.size ≤ 80000) :
    Calls Tryd.prog 17 #[v] w fun e w' => e = .returned (.tuple #[.string ⟨(plainT (ps.map (·.1))).toArray⟩, .int .i64 0]) ∧ Below w.heap.size w w' := by
  have HC := Lib.hid (rightDoc_any v ps w hv hz)
  rw [h0] at HC
  obtain ⟨⟨a, cap, rfl, h1, h2, h3⟩, hat⟩ := hv
  have hn : ps.length ≤ 9223372036854775807 := Nat.le_trans h1 h2
  have H3 := Lib.hid h3
  have HAT := Lib.hid hat
  have HT := Lib.hid ht
  clear h1 h2 h3 hat hz ht h0
  go_enter Tryd.func17, Tryd.ntmps17
  go_wp2_with fail
  refine HC.out.mono ?_
  rintro e w1 ⟨rfl, hb⟩
  have HB := Lib.hid hb
  have hs := hb.size
  clear hb
  go_wp2_with fail
  go_loopw [15] (fun i wr => ∃ k : Nat, i = .int .i64 (k : Int) ∧ k ≤ ps.length ∧ Below w.heap.size w wr ∧ w1.heap.size < wr.heap.size ∧ Lib.IsBuilder 64 5 w1.heap.size w1.heap.size (Lib.byteCells (plainT ((ps.map (·.1)).take k))) wr) (fun i _ => ps.length - (intOf i).toNat)
  case atStart => exact ⟨0, rfl, Nat.zero_le _, HB.out.alloc hs _, by simp, Lib.fresh_isBuilder 64 5 w1⟩
  case round =>
    obtain ⟨k, rfl, hk, hb, hlt1, hi⟩ := hrel
    have HBW := Lib.hid hb
    have HI := Lib.hid hi
    by_cases hlt : k < ps.length
    · have hlt' : (k : Int) < (ps.length : Int) := by omega
      obtain ⟨b, off, rfl, hbl, x0', x1'⟩ := H3.out k hlt
      have htk := HT.out ps[k] (List.getElem_mem hlt)
      have hra := HAT.out ps[k] (List.getElem_mem hlt)
      have hnext : plainT ((ps.map (·.1)).take (k + 1)) = plainT ((ps.map (·.1)).take k) ++ ps[k].1.text.data.toList := by
        rw [List.take_succ_eq_append_getElem (by rw [List.length_map]; exact hlt), plainT_append, List.getElem_map]
        simp [plainT]
      have hsz : (plainT ((ps.map (·.1)).take k)).length ≤ 2000 * 80000 := by
        refine Nat.le_trans (plainT_size (l := (ps.map (·.1)).take k) fun r hr => ?_) (Nat.mul_le_mul_right _ (by rw [List.length_take, List.length_map]; omega))
        obtain ⟨p, hp, rfl⟩ := List.mem_map.1 (List.mem_of_mem_take hr)
        exact HT.out p hp
      obtain ⟨q, hq⟩ : ∃ q, q = ps[k] := ⟨_, rfl⟩
      rw [← hq] at x0' x1' htk hra hnext
      obtain ⟨r, rv⟩ := q
      obtain ⟨ra, rc, hrv⟩ := hra.shape
      simp only at hrv x0' x1' htk hnext
      subst hrv
      have hs0 := hb.size
      have x0 : wr.cell? ⟨b, off + k * 2, none⟩ = some (.string r.text) := (hb.cell (by exact hbl)).trans x0'
      have x1 : wr.cell? ⟨b, off + k * 2 + 1, none⟩ = some (.slice ra r.attrs.length rc) := (hb.cell (by exact hbl)).trans x1'
      have hbr : b < wr.heap.size := Nat.lt_of_lt_of_le hbl hs0
      have HNX := Lib.hid hnext
      have HSZ := Lib.hid hsz
      clear hb hi x0' x1' hra hq hnext hsz
      go_wp2_with fail
      refine (Tryd.Builder_WriteString w1.heap.size w1.heap.size _ r.text _ (isBuilder_below HI.out (below_box wr _)) (by rw [Lib.byteCells_length]; have := HSZ.out; omega) (by simp; omega)).mono ?_
      rintro e w2 ⟨rfl, hi2, hb2⟩
      have hs2 := hb2.size
      have HB2 := Lib.hid (HBW.out.trans (((below_box wr _).mono hs0).trans (hb2.mono hs)))
      have hl2 := hi2.lt
      have HI2 := Lib.hid (show Lib.IsBuilder 64 5 w1.heap.size w1.heap.size (Lib.byteCells (plainT ((ps.map (·.1)).take (k + 1)))) w2 by
        rw [HNX.out, Lib.byteCells_append]; exact .inr hi2)
      clear hi2 hb2 HI
      go_wp2_with fail
      go_roundw
      case rel => exact ⟨k + 1, by go_num, by omega, HB2.out, hl2, HI2.out⟩
      case measure => simp [intOf]; omega
    · have hkn : k = ps.length := by omega
      have hlt' : ¬ (k : Int) < (ps.length : Int) := by omega
      have htake : (ps.map (·.1)).take k = ps.map (·.1) := List.take_of_length_le (by rw [List.length_map]; omega)
      rw [htake] at HI
      clear hb hi htake
      go_wp2_with fail
      refine (Tryd.Builder_String_any w1.heap.size w1.heap.size _ _ HI.out (by omega)).mono ?_
      rintro e w2 ⟨rfl, hb2⟩
      have HB2 := Lib.hid (HBW.out.trans (hb2.mono hs))
      clear hb2
      go_wp2_with fail
      go_ret2
      exact ⟨rfl, HB2.out⟩
end Go.Proofs.YtgalhfnejhboaaaDoor

/- The program's As: the changeset that makes a document of nothing. -/
namespace Go.Proofs.YtgalhfnejhboaaaDoor
open Go.RowKit Rn Ch At

def asOne (r : RunD) : OpD := ⟨2, 0, r.text, r.attrs⟩
def asS (l : List RunD) (k : Nat) : List OpD × Int := ((l.take k).map asOne).foldl addG ([], 0)
def asL (l : List RunD) : List OpD := norm (l.map asOne)
theorem asS_succ {l : List RunD} {k : Nat} (h : k < l.length) : asS l (k + 1) = addG (asS l k) (asOne l[k]) := by
  unfold asS
  rw [List.take_succ_eq_append_getElem h, List.map_append, List.foldl_append]; rfl
theorem asS_sm {l : List RunD} (ht : ∀ r ∈ l, r.text.size ≤ 80000) : ∀ k, k ≤ l.length → SmI 0 (80000 * k) k (asS l k) := by
  intro k
  induction k with
  | zero => intro _; exact smI_nil
  | succ k ih =>
    intro h
    have h1 := ht l[k] (List.getElem_mem (by omega))
    rw [asS_succ (by omega)]
    exact ((ih (by omega)).addG (o := asOne l[k]) (Int.le_refl _)).more (Int.le_refl _) (by show 80000 * k + l[k].text.size ≤ _; omega) (Nat.le_refl _)
theorem foldG_all (ops : List OpD) (h : ∀ o ∈ ops, ¬ (o.n = 0 ∧ o.text.size = 0)) : ∀ s : List OpD × Int, ops.foldl addG s = ops.foldl Ch.add s := by
  induction ops with
  | nil => intro s; rfl
  | cons o r ih =>
    intro s
    have e : addG s o = Ch.add s o := by unfold addG; rw [if_neg (h o (List.mem_cons_self ..))]
    rw [List.foldl_cons, List.foldl_cons, e, ih fun x hx => h x (List.mem_cons_of_mem _ hx)]
theorem okR_size {r : RunD} (h : OkR r) : r.text.size ≠ 0 ∧ r.text.size ≤ 80000 := by
  obtain ⟨a, b, c, d⟩ := h.rns
  have h1 := txt_len (rns r)
  have h2 : r.text.size = (txt (rns r)).length := by conv => lhs; rw [b, T_size]
  have h3 : 1 ≤ (rns r).length := List.length_pos_iff.2 c
  omega
theorem asS_all {l : List RunD} (h : ∀ r ∈ l, OkR r) : chgL (asS l l.length) = asL l := by
  unfold asS chgL asL norm fold
  rw [List.take_length, foldG_all]
  intro o ho
  obtain ⟨r, hr, rfl⟩ := List.mem_map.1 ho
  rintro ⟨_, h2⟩
  exact (okR_size (h r hr)).1 h2
theorem asL_len (l : List RunD) : (asL l).length ≤ l.length := by
  have := norm_len (l.map asOne)
  rw [List.length_map] at this
  exact this
/-- Carried out on nothing it makes the document. -/
theorem as_makes {l : List RunD} (h : lenE l = 0) : appE [] 0 (asL l) = 0 ∧ appL [] 0 (asL l) = l := by
  have hd := docF_of h
  have hall : allE (l.map asOne) := fun o ho => by
    obtain ⟨r, hr, rfl⟩ := List.mem_map.1 ho
    have h1 := okR_nums (hd.oks r hr)
    exact (opE_put rfl).2 ⟨rfl, (okR_size (hd.oks r hr)).1, h1.1, rgtE_zero.2 (hd.rgt r hr)⟩
  have hsum : ∀ l : List RunD, (∀ r ∈ l, OkR r) → ins (l.map asOne) = ((cellsD l).length : Int) ∧ kd (l.map asOne) = 0 ∧ dl (l.map asOne) = 0 ∧ act (l.map asOne) [] = cellsD l ∧ actOk (l.map asOne) [] := by
    intro l
    induction l with
    | nil => intro _; exact ⟨rfl, rfl, rfl, rfl, trivial⟩
    | cons r s ih =>
      intro hk
      obtain ⟨a, b, c, d, e⟩ := ih fun x hx => hk x (List.mem_cons_of_mem _ hx)
      have h1 := okR_nums (hk r (List.mem_cons_self ..))
      have hk2 : (asOne r).kind = 2 := rfl
      rw [List.map_cons, ins, kd, dl, if_pos hk2, if_pos hk2, if_neg (by rw [hk2]; decide), (act_ins hk2).1, (act_ins hk2).2, cellsD_cons, List.length_append, List.length_map, d]
      refine ⟨?_, by omega, by omega, ?_, e⟩
      · show cnt r.text.data.toList + _ = _; omega
      · unfold insC; rw [cellsD_one]; rfl
  obtain ⟨s1, s2, s3, s4, s5⟩ := hsum l hd.oks
  have hn := hd.n1
  have hins : ins (l.map asOne) ≤ 20000 := by omega
  obtain ⟨n1, n2, n3, n4⟩ := norm_sums hall hins
  obtain ⟨e1, e2⟩ := eqv_norm hall hins [] (fun x hx => by cases hx)
  have hl := asL_len l
  have hlen := hd.len
  have hto : toE 0 (asL l) = 0 := (toE_iff _ _).2 ⟨Int.le_refl _, by omega, by omega, n1, by show kd (norm (l.map asOne)) ≤ _; omega, by show 0 - dl (norm (l.map asOne)) + ins (norm (l.map asOne)) ≤ _; omega⟩
  have hfit : fitE [] 0 (asL l) = 0 := fit_iff.2 ⟨rfl, hto, rfl⟩
  have hact : act (asL l) (cellsD []) = cellsD l := e1.trans s4
  have happ := app_mk hfit (e2.2 s5) (by rw [hact, hd.doc, List.length_reverse]; exact hd.len)
  exact ⟨happ, by rw [(appF_of happ).val, hact, hd.doc, List.reverse_reverse]⟩

theorem results_chgN {fn : Func} {i j : Nat} (h : fn.results = #[.cell i 25, .tmp j]) {tmps : Array Value} {w : World} {b4 : Nat} {v x y : Value} (h4 : tmps.getD i undef = .pointer (some ⟨b4, 0, none⟩)) (h5 : tmps.getD j undef = v)
    (z4 : w.cell? ⟨b4, 0, none⟩ = some x) (z5 : w.cell? ⟨b4, 1, none⟩ = some y) : (results fn tmps).run Tryd.prog w = .ok (.tuple #[.agg #[x, y], v]) w := by
  rw [Array.getD_eq_getD_getElem?] at h4 h5
  simp [results, h, h4, h5, go_sem, z4, z5]
set_option maxRecDepth 100000 in
set_option maxHeartbeats 4000000 in
theorem as_any (v : Value) (ps : List RP) (w : World) (hv : RunRow w v ps) (hz : RSized (ps.map (·.1))) (h0 : lenE (ps.map (·.1)) = 0) :
    Calls Tryd.prog 18 #[v] w fun e w' => ∃ u, e = .returned (.tuple #[chAgg 0 u, .int .i64 0]) ∧ OwnOps w' w.heap.size u (asL (ps.map (·.1))) ∧ Below w.heap.size w w' := by
  have bA := below_box w (.cells #[.int .i64 0, .slice none 0 0] 25)
  have HC := Lib.hid (rightDoc_any v ps (w.alloc (.cells #[.int .i64 0, .slice none 0 0] 25)) (hv.below bA) hz)
  have HBA := Lib.hid bA
  have HA0 := Lib.hid (show (w.alloc (.cells #[.int .i64 0, .slice none 0 0] 25)).heap[w.heap.size]? = some (.cells #[.int .i64 0, .slice none 0 0] 25 (0, 0)) from heap_new _ _)
  have HD := Lib.hid (docF_of h0)
  rw [h0] at HC
  obtain ⟨⟨a, cap, rfl, h1, h2, h3⟩, hat⟩ := hv
  have hn : ps.length ≤ 9223372036854775807 := Nat.le_trans h1 h2
  have hl2 : ps.length ≤ 2000 := by have := HD.out.len; rwa [List.length_map] at this
  have H3 := Lib.hid h3
  have HAT := Lib.hid hat
  have HTX := Lib.hid (show ∀ r ∈ ps.map (·.1), r.text.size ≤ 80000 from fun r hr => (okR_size (HD.out.oks r hr)).2)
  clear h1 h2 h3 hat hz h0 bA
  go_enter Tryd.func18, Tryd.ntmps18
  go_wp2_with fail
  refine HC.out.mono ?_
  rintro e w1 ⟨rfl, hb⟩
  have HB := Lib.hid (HBA.out.trans (hb.mono HBA.out.size))
  have hs := HB.out.size
  have HA1 := Lib.hid ((hb.block _ (lt_of_heap HA0.out)).trans HA0.out)
  have hs1 := lt_of_heap HA1.out
  clear hb
  go_wp2_with fail
  go_loopw [16] (fun i wr => ∃ (k : Nat) (ov : Value), i = .int .i64 (k : Int) ∧ k ≤ ps.length ∧ Below w.heap.size w wr ∧ wr.heap[w.heap.size]? = some (.cells #[.int .i64 0, .slice none 0 0] 25 (0, 0)) ∧ NSt wr w1.heap.size w1.heap.size ov (asS (ps.map (·.1)) k).1 (asS (ps.map (·.1)) k).2) (fun i _ => ps.length - (intOf i).toNat)
  case atStart => exact ⟨0, .slice none 0 0, rfl, Nat.zero_le _, HB.out.alloc hs _, (Below.heap_alloc _ _ _ hs1).trans HA1.out, nst_new (heap_new _ _)⟩
  case round =>
    obtain ⟨k, ov, rfl, hk, hb, hA, hN⟩ := hrel
    have HBW := Lib.hid hb
    have HAW := Lib.hid hA
    have HN := Lib.hid hN
    have HSM := Lib.hid (asS_sm HTX.out k (by rw [List.length_map]; exact hk))
    have hlt1 := hN.lt
    by_cases hlt : k < ps.length
    · have hlt' : (k : Int) < (ps.length : Int) := by omega
      obtain ⟨b, off, rfl, hbl, x0', x1'⟩ := H3.out k hlt
      have hra := HAT.out ps[k] (List.getElem_mem hlt)
      have hkm : k < (ps.map (·.1)).length := by rw [List.length_map]; exact hlt
      have hnext := asS_succ hkm
      have htx := HTX.out _ (List.getElem_mem hkm)
      have hrg := HD.out.rgt _ (List.getElem_mem hkm)
      rw [List.getElem_map] at hnext htx hrg
      obtain ⟨q, hq⟩ : ∃ q, q = ps[k] := ⟨_, rfl⟩
      rw [← hq] at x0' x1' hra hnext htx hrg
      obtain ⟨r, rv⟩ := q
      obtain ⟨ra, rc, hrv⟩ := hra.shape
      simp only at hrv x0' x1' hnext htx hrg
      subst hrv
      have hs0 := hb.size
      have x0 : wr.cell? ⟨b, off + k * 2, none⟩ = some (.string r.text) := (hb.cell (by exact hbl)).trans x0'
      have x1 : wr.cell? ⟨b, off + k * 2 + 1, none⟩ = some (.slice ra r.attrs.length rc) := (hb.cell (by exact hbl)).trans x1'
      have hbr : b < wr.heap.size := Nat.lt_of_lt_of_le hbl hs0
      have HNX := Lib.hid hnext
      have HRA := Lib.hid (fun W (h : Below w.heap.size w W) => (show AtRow w (.slice ra r.attrs.length rc) r.attrs from hra).below h)
      have HX := Lib.hid (below_box wr (.cells #[.string r.text, .slice ra r.attrs.length rc] 54))
      have HAD := Lib.hid (addG_any w1.heap.size w1.heap.size ov (asS (ps.map (·.1)) k) (asOne r) (.slice ra r.attrs.length rc) _ (HN.out.below HX.out) (Nat.le_refl _)
        (HSM.out.fits (by omega) (by omega) (by omega) (Int.le_refl _) (by show (0 : Int) ≤ _; omega) (by show r.text.size ≤ _; omega) (small_rgt (rgtE_zero.2 hrg))) (fun w' hw => HRA.out w' (HBW.out.trans ((HX.out.mono hs0).trans (hw.below.mono hs)))))
      clear hb hA hN x0' x1' hra hq hnext htx hrg
      go_wp2_with fail
      refine HAD.out.mono ?_
      rintro e w2 ⟨rfl, ov', hN2, hK2⟩
      have HB2 := Lib.hid (HBW.out.trans ((HX.out.mono hs0).trans (hK2.keep.below.mono hs)))
      have HA2 := Lib.hid (hK2.keep.kept _ _ _ _ ((HX.out.block _ (lt_of_heap HAW.out)).trans HAW.out) (by decide))
      have HN2 := Lib.hid hN2
      clear hN2 hK2
      go_wp2_with fail
      go_roundw
      case rel => exact ⟨k + 1, ov', by go_num, by omega, HB2.out, HA2.out, by rw [HNX.out]; exact HN2.out⟩
      case measure => simp [intOf]; omega
    · have hkn : k = (ps.map (·.1)).length := by rw [List.length_map]; omega
      have hlt' : ¬ (k : Int) < (ps.length : Int) := by omega
      obtain ⟨f0, f1, f2⟩ := HSM.out.fin (by omega) (by omega) (by omega)
      have HCH := Lib.hid (changeG_any w1.heap.size w1.heap.size ov (asS (ps.map (·.1)) k) 0 wr hN (Nat.le_refl _) f0 f1 f2)
      have hchg : chgL (asS (ps.map (·.1)) k) = asL (ps.map (·.1)) := by rw [hkn]; exact asS_all HD.out.oks
      have hln : ¬ 2000 < (asL (ps.map (·.1))).length := by have := asL_len (ps.map (·.1)); rw [List.length_map] at this; omega
      have HCG := Lib.hid hchg
      have HLN := Lib.hid hln
      clear hb hA hN f0 f1 f2 hchg hln
      go_wp2_with fail
      refine HCH.out.mono ?_
      rintro e w2 ⟨u, rfl, hO, hK⟩
      rw [HCG.out, if_neg HLN.out] at hO
      rw [HCG.out, if_neg HLN.out, if_neg HLN.out]
      have x1 := hK.kept _ _ _ _ HAW.out (by decide)
      have p0 : w2.cell? ⟨w.heap.size, 0, none⟩ = some (.int .i64 0) := (cells2 x1).1
      have p1 : w2.cell? ⟨w.heap.size, 1, none⟩ = some (.slice none 0 0) := (cells2 x1).2.1
      have p2 : w2.frozen? ⟨w.heap.size, 0, none⟩ = false := (cells2 x1).2.2.1
      have p3 : w2.frozen? ⟨w.heap.size, 1, none⟩ = false := (cells2 x1).2.2.2
      have HX1 := Lib.hid x1
      obtain ⟨cps, hcp, hcO⟩ := hO
      obtain ⟨ca, cc, rfl⟩ := own_slice hcO.1
      have HO := Lib.hid (And.intro hcp hcO)
      have HBE := Lib.hid (HBW.out.trans (hK.below.mono hs))
      clear hK x1 hcp hcO
      go_wp2_with fail
      obtain ⟨q1, q2, q3⟩ := agg_set (.int .i64 0) (.slice ca cps.length cc) HX1.out
      refine bodyPost_ret (results_chgN rfl rfl rfl (cells2 q1).1 (cells2 q1).2.1) rfl ?_
      exact ⟨.slice ca cps.length cc, rfl, ⟨cps, HO.out.1, (HO.out.2.keep q2 (by decide) (by decide)).base (by omega)⟩, HBE.out.trans q2.below⟩
end Go.Proofs.YtgalhfnejhboaaaDoor

/- The program's Slice: a part of a document. -/
namespace Go.Proofs.YtgalhfnejhboaaaDoor
open Go.RowKit Go.Shelf Rn Ch At
attribute [local go_sem] Oper.semAt_some

def sliceC (cs : List CD) (a b : Nat) : List CD := (cs.drop a).take (b - a)
def sliceL (l : List RunD) (a b : Nat) : List RunD := (docR (sliceC (cellsD l) a b)).reverse
def SliceOut (w : World) (l : List RunD) (a b : Nat) (e : Ending) (w' : World) : Prop :=
  ∃ u, e = .returned (.tuple #[u, .int .i64 0]) ∧ Below w.heap.size w w' ∧ ∃ rs : List RP, rs.map (·.1) = sliceL l a b ∧ OwnR w' w.heap.size u rs
theorem docR_small (cs : List CD) : (docR cs).length ≤ cs.length ∧ ∀ x ∈ docR cs, x.text.size ≤ 4 * cs.length := by
  have h := accA_small (cs.map fun x => ((⟨2, 0, ⟨#[]⟩, []⟩ : OpD), x))
  rw [accA_out, out_ins _ rfl, List.length_map] at h
  exact h
theorem docR_snoc (cs : List CD) (x : CD) : docR (cs ++ [x]) = putR (docR cs) (E x.1) x.2 := by
  unfold docR
  rw [List.foldl_append]; rfl
structure StS (B : Nat) (w0 : World) (xs : List CellV) (D bd : Nat) (k : Nat) (W : World) : Prop where
  below : Below B w0 W
  doc : ∃ ov, DSt W B bd ov (docR ((xs.take k).map pcell))
  mark : W.heap[D]? = some (.deferred (some []))
theorem KBelow_ok (B : Nat) : KOk B (Below B) := ⟨fun h k => h.trans k, fun h => h.below⟩

set_option maxRecDepth 100000 in
set_option maxHeartbeats 8000000 in
theorem slice_any (v : Value) (ps : List RP) (a b : Nat) (w : World) (hv : RunRow w v ps) (hz : RSized (ps.map (·.1))) (h0 : lenE (ps.map (·.1)) = 0) (hab : a ≤ b) (hbn : b ≤ (cellsD (ps.map (·.1))).length) (hU : U8s w.heap.size w) :
    Calls Tryd.prog 16 #[v, .int .i64 (a : Int), .int .i64 (b : Int)] w (SliceOut w (ps.map (·.1)) a b) := by
  have HLE := Lib.hid (length_any v ps w hv hz)
  obtain ⟨l, hl⟩ : ∃ l, l = ps.map (·.1) := ⟨_, rfl⟩
  rw [← hl] at h0 hbn HLE ⊢
  have HD := Lib.hid (docF_of h0)
  have hN := HD.out.n
  have hn1 := HD.out.n1
  have HOK := Lib.hid (show ∀ p ∈ ps, OkR p.1 from fun p hp => HD.out.oks p.1 (by rw [hl]; exact List.mem_map.2 ⟨p, hp, rfl⟩))
  have HLL := Lib.hid hl
  have HV := Lib.hid hv
  have HU := Lib.hid hU
  have HE0 := Lib.hid h0
  have te : (lenE l != 0) = false := by rw [h0]; rfl
  have t1 : decide ((a : Int) < 0) = false := decide_eq_false (by omega)
  have t2 : decide ((b : Int) < (a : Int)) = false := decide_eq_false (by omega)
  have t3 : decide (lenN l < (b : Int)) = false := decide_eq_false (by omega)
  have u1 : ¬ ((a : Int) < 0) := by omega
  have u2 : ¬ ((b : Int) < (a : Int)) := by omega
  have u3 : ¬ (lenN l < (b : Int)) := by omega
  obtain ⟨va, vc, rfl⟩ := hv.shape
  have hba : wrap64 ((b : Int) - (a : Int)) = ((b - a : Nat) : Int) := by rw [IntWalk.wrap64_in _ (by omega)]; omega
  clear hv hz hl hU h0
  refine (callsIn_wide (n := 0)).1 (callsIn_of_wp_marks Tryd.func16 rfl trivial ?_ rfl)
  simp only [Tryd.ntmps16, List.size_toArray, List.length_cons, List.length_nil, Nat.reduceAdd, Nat.reduceSub, Array.replicate_succ, Array.replicate_zero, List.push_toArray, List.append_toArray, List.nil_append, List.cons_append]
  gi_wp2
  refine ⟨trivial, rfl, (callsIn_wide.2 HLE.out).mono ?_⟩
  rintro e w1 ⟨rfl, hb1⟩
  have HB1 := Lib.hid hb1
  have s1 := hb1.size
  clear hb1 HLE
  gi_wp2
  refine ⟨trivial, rfl, (callsIn_wide.2 (next_any _ _ _)).mono ?_⟩
  rintro e w2 ⟨rfl, rfl⟩
  simp only [World.size_alloc]
  obtain ⟨Y, hY⟩ : ∃ Y, Y = ((w1.alloc (.cells #[.slice va ps.length vc, .int .i64 0] 92)).alloc (.cells #[.pointer (some ⟨w1.heap.size, 0, none⟩)] 124)).alloc (.cells #[.int .i64 (a : Int)] 3) := ⟨_, rfl⟩
  rw [← hY]
  have sY : Y.heap.size = w1.heap.size + 3 := by rw [hY]; simp
  have BY : Below w1.heap.size w1 Y := by rw [hY]; exact (((Below.refl _ w1).alloc (Nat.le_refl _) _).alloc (by simp) _).alloc (by simp; omega) _
  have b0 : WBlk Y w1.heap.size (.slice va ps.length vc) 0 := by
    unfold WBlk
    rw [hY, Below.heap_alloc _ _ _ (by simp; omega), Below.heap_alloc _ _ _ (by simp)]; exact heap_new _ _
  have b1 : Boxed Y (w1.heap.size + 1) 124 (.pointer (some ⟨w1.heap.size, 0, none⟩)) := by
    rw [hY]
    have := (Boxed.new (w1.alloc (.cells #[.slice va ps.length vc, .int .i64 0] 92)) 124 (.pointer (some ⟨w1.heap.size, 0, none⟩))).alloc (.cells #[.int .i64 (a : Int)] 3)
    simpa only [World.size_alloc] using this
  have b2 : Boxed Y (w1.heap.size + 1 + 1) 3 (.int .i64 (a : Int)) := by
    rw [hY]
    have := Boxed.new ((w1.alloc (.cells #[.slice va ps.length vc, .int .i64 0] 92)).alloc (.cells #[.pointer (some ⟨w1.heap.size, 0, none⟩)] 124)) 3 (.int .i64 (a : Int))
    simpa only [World.size_alloc] using this
  have HBY := Lib.hid (HB1.out.trans (BY.mono s1))
  have HBX := Lib.hid (And.intro b0 (And.intro b1 b2))
  have hPL : Place (ps, 0) := by
    cases hps : ps with
    | nil => exact .inl ⟨rfl, rfl⟩
    | cons p r => exact .inr ⟨p, r, rfl, List.length_pos_iff.2 (HOK.out p (by rw [hps]; exact List.mem_cons_self ..)).rns.2.2.1⟩
  have HPL := Lib.hid hPL
  have HWS := Lib.hid (show ∀ W, Below w.heap.size w W → WBlk W w1.heap.size (.slice va ps.length vc) 0 → WSt (Below w.heap.size) W w1.heap.size ps 0 from fun W hb hw =>
    ⟨_, 0, hw, fun w' hk => HV.out.below (hb.trans hk), HOK.out, by
      rcases HPL.out with ⟨h1, h2⟩ | ⟨p, r, h1, h2⟩
      · exact .inl ⟨h1, h2, rfl⟩
      · exact .inr ⟨p, r, h1, h2, rfl⟩⟩)
  clear hY BY b0 b1 b2 hPL
  have hn1' : w.heap.size ≤ w1.heap.size := s1
  generalize w1.heap.size = n1 at *
  gi_wp2
  refine range_it (next_iter (Below w.heap.size) w.heap.size n1 (n1 + 1 + 1) (n1 + 1) ps 0 (a : Int) [] (fun _ _ => True) (fun _ _ => True) (KBelow_ok _) hn1' (by omega) (by decide) (by decide) (fun h _ => h.below)) rfl (enters_of Tryd.func83 (by kernel_rfl) rfl) (fun _ => rfl) (by omega) ?hS (fun _ _ => trivial) (fun _ _ _ _ _ _ => trivial)
    (fun k W' => Below w.heap.size w W') (fun c k W' => False)
    (fun _ _ _ h hs => h.trans hs.below) (fun _ _ _ _ h hs => h) (fun _ _ _ _ _ => trivial) HBY.out ?rnd ?done ?stop (fun A A' h hs => ?s1)
  case hS =>
    intro W hb
    have hk : ∀ {i : Nat} {o : Obj}, Y.heap[i]? = some o → W.heap[i]? = some o := fun hi => (hb.block _ (lt_of_heap hi)).trans hi
    have hbB := HBY.out.trans (hb.mono (show w.heap.size ≤ Y.heap.size by omega))
    exact ⟨hk HBX.out.2.2, hk HBX.out.2.1, HWS.out W hbB (hk HBX.out.1), HU.out.to hbB⟩
  case s1 =>
    exact h.keep (fun h k => h.trans k) hs.below (fun lv o hw => hs.cells _ _ _ _ hw (.inl (by simp)))
  case stop =>
    rintro D c k W hle hk hx hD
    exact hx.elim
  case rnd =>
    rintro l' k hk W2 hle hI
    gi_wp2
    refine ⟨Rnd.refl _ _ _ _, trivial, hI, fun W4 hs hsz4 ⟨r4, hr4⟩ => ?_⟩
    have hI4 := Lib.hid (hI.trans hs.below)
    clear hs hsz4 hr4 hI
    gi_wp2
    exact ⟨Rnd.refl _ _ _ _, trivial, hI4.out⟩
  case done =>
    rintro D W hle hI hS1 hD
    have hD0 := lt_of_heap hD
    have hlW : n1 < W.heap.size := by obtain ⟨lv, o, h, _⟩ := hS1; exact lt_of_heap h
    have hWs := hI.size
    obtain ⟨hp1, hp2, hp3⟩ := adv_rem (a : Int).toNat (ps, 0) HPL.out HOK.out
    have hr0 : rem (ps, 0) = cellsP ps := by unfold rem; rw [List.drop_zero]
    have hta : (a : Int).toNat = a := by omega
    rw [hta] at hp1 hp2 hp3 hS1
    rw [hr0] at hp3
    have hmm : ∀ q ∈ (adv a (ps, 0)).1, q ∈ ps := fun q hq => mem_adv (s := (ps, 0)) hq
    obtain ⟨psA, kA⟩ : ∃ psA, psA = adv a (ps, 0) := ⟨_, rfl⟩
    rw [← kA] at hp1 hp2 hp3 hS1 hmm
    obtain ⟨pA, kk⟩ := psA
    simp only at hp1 hp2 hp3 hS1 hmm
    have HP3 := Lib.hid hp3
    have HMM := Lib.hid hmm
    have HI := Lib.hid hI
    have HD1 := Lib.hid hD
    have HS1 := Lib.hid hS1
    clear hI hS1 hD hp1 hp3 hmm kA hr0 HBX HWS HBY
    gi_wp2
    refine ⟨trivial, rfl, (callsIn_wide.2 (next_any _ _ _)).mono ?_⟩
    rintro e w2 ⟨rfl, rfl⟩
    simp only [World.size_alloc]
    have hba2 : (b : Int) - (a : Int) = ((b - a : Nat) : Int) := by omega
    try rw [hba2]
    obtain ⟨Z, hZ⟩ : ∃ Z, Z = ((W.alloc (.cells #[.slice none 0 0, .pointer none, .slice none 0 0] 66)).alloc (.cells #[.pointer (some ⟨n1, 0, none⟩)] 124)).alloc (.cells #[.int .i64 ((b - a : Nat) : Int)] 3) := ⟨_, rfl⟩
    rw [← hZ]
    have sZ : Z.heap.size = W.heap.size + 3 := by rw [hZ]; simp
    have BZ : Below W.heap.size W Z := by rw [hZ]; exact (((Below.refl _ W).alloc (Nat.le_refl _) _).alloc (by simp) _).alloc (by simp; omega) _
    have d0 : Z.heap[W.heap.size]? = some (.cells #[.slice none 0 0, .pointer none, .slice none 0 0] 66 (0, 0)) := by
      rw [hZ, Below.heap_alloc _ _ _ (by simp; omega), Below.heap_alloc _ _ _ (by simp)]; exact heap_new _ _
    have d1 : Boxed Z (W.heap.size + 1) 124 (.pointer (some ⟨n1, 0, none⟩)) := by
      rw [hZ]
      have := (Boxed.new (W.alloc (.cells #[.slice none 0 0, .pointer none, .slice none 0 0] 66)) 124 (.pointer (some ⟨n1, 0, none⟩))).alloc (.cells #[.int .i64 ((b - a : Nat) : Int)] 3)
      simpa only [World.size_alloc] using this
    have d2 : Boxed Z (W.heap.size + 1 + 1) 3 (.int .i64 ((b - a : Nat) : Int)) := by
      rw [hZ]
      have := Boxed.new ((W.alloc (.cells #[.slice none 0 0, .pointer none, .slice none 0 0] 66)).alloc (.cells #[.pointer (some ⟨n1, 0, none⟩)] 124)) 3 (.int .i64 ((b - a : Nat) : Int))
      simpa only [World.size_alloc] using this
    have HBZ := Lib.hid (HI.out.trans (BZ.mono hWs))
    have HWZ := Lib.hid (HS1.out.keep (fun h k => h.trans k) (BZ.mono hWs) (fun lv o hw => (BZ.block _ hlW).trans hw))
    have HDX := Lib.hid (And.intro d1 d2)
    have HST0 := Lib.hid (show StS w.heap.size w ((rem (pA, kk)).take ((b - a : Nat) : Int).toNat) D W.heap.size 0 Z from
      { below := HBZ.out, doc := ⟨_, dst_new d0⟩, mark := (BZ.block _ hD0).trans HD1.out })
    clear hZ BZ d0 d1 d2 HD1 HS1 HI
    obtain ⟨xs, hxs⟩ : ∃ xs, xs = (rem (pA, kk)).take ((b - a : Nat) : Int).toNat := ⟨_, rfl⟩
    rw [← hxs] at HST0
    have hit := next_iter (Below w.heap.size) w.heap.size n1 (W.heap.size + 1 + 1) (W.heap.size + 1) pA kk ((b - a : Nat) : Int) TD (fun _ _ => True) (fun _ _ => True) (KBelow_ok _) hn1' (by omega) (by decide) (by decide) (fun h _ => h.below)
    rw [← hxs] at hit
    have hxm : ∀ k (hk : k < xs.length), xs[k].2 ∈ ps := fun k hk => HMM.out _ (mem_rem (s := (pA, kk)) (List.mem_of_mem_take (by rw [← hxs]; exact List.getElem_mem hk)))
    have hxl : xs.length ≤ 20000 := by
      rw [hxs, List.length_take]
      omega
    have hxc : xs.map pcell = sliceC (cellsD l) a b := by
      rw [hxs, HP3.out, List.map_take, List.map_drop, cellsD_of, ← HLL.out]
      unfold sliceC
      congr 1
    have HXM := Lib.hid hxm
    have HXC := Lib.hid hxc
    clear hxs hxm hxc
    generalize hnd : W.heap.size = nd at *
    gi_wp2
    refine range_it hit rfl (enters_of Tryd.func83 (by kernel_rfl) rfl) (fun _ => rfl) (by omega) ?hS (fun _ _ => trivial) (fun _ _ _ _ _ _ => trivial)
      (fun k W' => StS w.heap.size w xs D nd k W') (fun c k W' => False)
      (fun _ _ _ h hs => ?hI) (fun _ _ _ _ h hs => h) (fun _ _ _ _ _ => trivial) HST0.out ?rnd ?done ?stop (fun A A' h hs => ?s1)
    case hI =>
      exact { below := h.below.trans hs.below, doc := by obtain ⟨ov, h⟩ := h.doc; exact ⟨ov, h.step hs (by decide) (by decide) (by decide) (by decide)⟩, mark := hs.other _ _ (by omega) h.mark rfl }
    case hS =>
      intro W' hb
      have hk : ∀ {i : Nat} {o : Obj}, Z.heap[i]? = some o → W'.heap[i]? = some o := fun hi => (hb.block _ (lt_of_heap hi)).trans hi
      have hbB := hb.mono (show w.heap.size ≤ Z.heap.size by omega)
      exact ⟨hk HDX.out.2, hk HDX.out.1, HWZ.out.keep (fun h k => h.trans k) hbB (fun lv o hw => hk hw), HU.out.to (HBZ.out.trans hbB)⟩
    case s1 =>
      exact h.keep (fun h k => h.trans k) hs.below (fun lv o hw => hs.cells _ _ _ _ hw (.inl (by simp)))
    case stop =>
      rintro D' c k W' hle hk hx hD
      exact hx.elim
    case rnd =>
      rintro l' k hk W2 hle hI
      have hxk := HXM.out k hk
      have htk : (xs.take (k + 1)).map pcell = (xs.take k).map pcell ++ [pcell xs[k]] := by
        rw [List.take_succ_eq_append_getElem hk, List.map_append]; rfl
      generalize xs[k] = x at hxk htk ⊢
      obtain ⟨xc, xr, xv⟩ := x
      simp only at hxk
      have hav := HV.out.2 _ hxk
      obtain ⟨ua, uc, hua⟩ := hav.shape
      simp only at hua hav
      subst hua
      have HAV := Lib.hid (fun W (h : Below w.heap.size w W) => hav.below h)
      have hrg := small_rgt (rgtE_zero.2 (HD.out.rgt xr (by rw [HLL.out]; exact List.mem_map.2 ⟨_, hxk, rfl⟩)))
      have HTK := Lib.hid htk
      have HI := Lib.hid hI
      have hW2 : w.heap.size ≤ W2.heap.size := hI.below.size
      clear hI htk hav hxk
      gi_wp2
      obtain ⟨W3, hW3⟩ : ∃ W3, W3 = W2.alloc (.cells #[.string (E xc), .slice ua xr.attrs.length uc] 71) := ⟨_, rfl⟩
      rw [← hW3]
      have B3 : Below W2.heap.size W2 W3 := by rw [hW3]; exact below_box _ _
      have x3 : W3.heap[W2.heap.size]? = some (.cells #[.string (E xc), .slice ua xr.attrs.length uc] 71 (0, 0)) := by rw [hW3]; exact heap_new _ _
      have hst : ∀ {A A' : World} {N : Nat} {own : List Nat}, nd < N → StS w.heap.size w xs D nd k A → Step w.heap.size N WT own A A' → StS w.heap.size w xs D nd k A' := fun hN h hs =>
        { below := h.below.trans hs.below, doc := by obtain ⟨ov, h⟩ := h.doc; exact ⟨ov, h.step hs (by decide) (by decide) (by decide) (by decide)⟩, mark := hs.other _ _ (by omega) h.mark rfl }
      have HI3 := hst (N := Z.heap.size) (own := []) (by omega) HI.out (step_below WT B3 hW2)
      refine ⟨rnd_below TD B3 hW2, trivial, HI3, fun W4 hs hsz4 ⟨r4, hr4⟩ => ?_⟩
      have HI4 := Lib.hid (hst (by omega) HI3 (hs.more (own' := []) (fun _ h => by cases h) (fun _ _ h => by cases h) (Nat.le_refl _)))
      have x4 := hs.cells _ _ _ _ x3 (.inl (by simp))
      have c0 : W4.cell? ⟨W2.heap.size, 0, none⟩ = some (.string (E xc)) := by simp [World.cell?, x4]
      have c1 : W4.cell? ⟨W2.heap.size, 1, none⟩ = some (.slice ua xr.attrs.length uc) := by simp [World.cell?, x4]
      have sx4 := lt_of_heap x4
      obtain ⟨dv, hd⟩ := HI4.out.doc
      have hsm := docR_small ((xs.take k).map pcell)
      have htl : ((xs.take k).map pcell).length ≤ 20000 := by rw [List.length_map, List.length_take]; omega
      have HPT := Lib.hid (putD_any w.heap.size nd dv (docR ((xs.take k).map pcell)) (E xc) xr.attrs (.slice ua xr.attrs.length uc) W4 hd (by omega)
        ⟨by omega, fun x r e => by have := hsm.2 x (by rw [e]; exact List.mem_cons_self ..); omega, by have := E_size xc; omega, hrg⟩ (fun w' hw => HAV.out w' (HI4.out.below.trans hw.below)))
      clear hs hsz4 hr4 x4 x3 B3 HI3 hW3 hd hsm htl hst
      gi_wp2
      refine ⟨trivial, rfl, CallsIn.inRound _ ((callsIn_wide.2 HPT.out).mono ?_)⟩
      rintro e W5 ⟨rfl, dv', hd5, hK5⟩
      have HF := Lib.hid (show Rnd w.heap.size Z.heap.size TD W4 W5 ∧ True ∧ StS w.heap.size w xs D nd (k + 1) W5 from
        ⟨(rnd_of_keep hK5.keep).more (by decide) (Nat.le_refl _), trivial,
          { below := HI4.out.below.trans hK5.keep.below, doc := ⟨dv', by rw [HTK.out, docR_snoc]; exact hd5⟩, mark := hK5.keep.all _ _ HI4.out.mark (out_not rfl) }⟩)
      clear hd5 hK5
      gi_wp2
      exact HF.out
    case done =>
      rintro D' W' hle hI _ hD'
      obtain ⟨dv, hd⟩ := hI.doc
      rw [List.take_length, HXC.out] at hd
      have hsm := docR_small (sliceC (cellsD l) a b)
      have hsl : (sliceC (cellsD l) a b).length ≤ 20000 := by unfold sliceC; rw [List.length_take, List.length_drop]; omega
      have HEN := Lib.hid (endD_any w.heap.size nd dv _ W' hd (by omega) (by omega))
      obtain ⟨da, dc, rfl⟩ := hd.slice
      have HI := Lib.hid hI
      have HD' := Lib.hid hD'
      clear hI hd hD' hsm hsl
      gi_wp2
      refine ⟨trivial, rfl, (callsIn_wide.2 HEN.out).mono ?_⟩
      rintro e W2 ⟨rfl, ⟨rs, hrs, hO⟩, hK⟩
      have m1 := hK.keep.all _ _ HI.out.mark (out_not rfl)
      have m2 := hK.keep.all _ _ HD'.out (out_not rfl)
      have HB2 := Lib.hid (HI.out.below.trans hK.keep.below)
      have HO := Lib.hid hO
      have HRS := Lib.hid hrs
      have HM := Lib.hid (And.intro m1 m2)
      clear hK hO hrs m1 m2 HI HD' HEN
      gi_wp2
      refine leaves_marks (B := w.heap.size) (N := w.heap.size) (v := .tuple #[.slice da (docR (sliceC (cellsD l) a b)).length dc, .int .i64 0]) (fun w => results_tmp2 (t := 6) (u := 7) rfl _ _ _) [D', D] W2 (by simp; omega) (fun d hd => ?_) fun w' hs => ?_
      · rcases List.mem_cons.1 hd with rfl | hd
        · exact ⟨by omega, by omega, HM.out.2⟩
        · rw [List.mem_singleton.1 hd]; exact ⟨by omega, by omega, HM.out.1⟩
      · exact ⟨_, rfl, HB2.out.trans hs.below, rs, HRS.out, HO.out.cells (fun _ _ _ hi => hs.cells _ _ _ _ hi (.inl (by simp))) (fun _ _ _ hi => hs.cells _ _ _ _ hi (.inl (by simp)))⟩
end Go.Proofs.YtgalhfnejhboaaaDoor

/- Parts of documents: their runs, texts, lengths; what stands behind each other. -/
namespace Go.Proofs.YtgalhfnejhboaaaDoor
open Go.RowKit Rn Ch At

theorem putC_len (l : List RunD) (x : CD) : l.length ≤ (putC l x).length := by
  cases l with
  | nil => exact Nat.zero_le _
  | cons y r => unfold putC; rw [putR]; split <;> simp
theorem docR_pre (xs : List CD) : ∀ l : List RunD, l.length ≤ (xs.foldl putC l).length := by
  induction xs with
  | nil => intro l; exact Nat.le_refl _
  | cons x r ih => intro l; exact Nat.le_trans (putC_len l x) (ih _)
theorem docR_post (ys : List CD) : ∀ s1 s2 : List RunD, s2.length ≤ s1.length → (s2 = [] ∨ ∃ a b r t, s1 = a :: r ∧ s2 = b :: t ∧ a.attrs = b.attrs) → (ys.foldl putC s2).length ≤ (ys.foldl putC s1).length := by
  induction ys with
  | nil => intro s1 s2 h _; exact h
  | cons x r ih =>
    intro s1 s2 h hh
    have head : ∀ s : List RunD, ∃ a t, putC s x = a :: t ∧ a.attrs = x.2 := fun s => by
      cases s with
      | nil => exact ⟨_, _, rfl, rfl⟩
      | cons y t =>
        unfold putC
        rw [putR]
        split
        · rename_i e; exact ⟨_, _, rfl, e⟩
        · exact ⟨_, _, rfl, rfl⟩
    obtain ⟨a1, t1, e1, f1⟩ := head s1
    obtain ⟨a2, t2, e2, f2⟩ := head s2
    refine ih (putC s1 x) (putC s2 x) ?_ (.inr ⟨a1, a2, t1, t2, e1, e2, f1.trans f2.symm⟩)
    rcases hh with rfl | ⟨a, b, r', t', rfl, rfl, hab⟩
    · show 1 ≤ _
      rw [e1]; simp
    · unfold putC
      rw [putR, putR, ← hab]
      split
      · simpa using h
      · simpa using h
theorem docR_len_slice (cs : List CD) (a b : Nat) : (docR (sliceC cs a b)).length ≤ (docR cs).length := by
  have h1 : (docR (cs.drop a)).length ≤ (docR cs).length := by
    have : docR cs = (cs.drop a).foldl putC ((cs.take a).foldl putC []) := by
      unfold docR; rw [← List.foldl_append, List.take_append_drop]
    rw [this]
    exact docR_post _ _ [] (Nat.zero_le _) (.inl rfl)
  refine Nat.le_trans ?_ h1
  unfold sliceC
  have : docR (cs.drop a) = ((cs.drop a).drop (b - a)).foldl putC (docR ((cs.drop a).take (b - a))) := by
    unfold docR; rw [← List.foldl_append, List.take_append_drop]
  rw [this]
  exact docR_pre _ _
structure PartF (l : List RunD) (a b : Nat) : Prop where
  right : lenE (sliceL l a b) = 0
  n : lenN (sliceL l a b) = ((sliceC (cellsD l) a b).length : Int)
  cells : cellsD (sliceL l a b) = sliceC (cellsD l) a b
theorem part_of {l : List RunD} (h : lenE l = 0) (a b : Nat) : PartF l a b := by
  have hd := docF_of h
  have hsub : ∀ x ∈ sliceC (cellsD l) a b, x ∈ cellsD l := fun x hx => List.mem_of_mem_drop (List.mem_of_mem_take hx)
  have hlen : (sliceC (cellsD l) a b).length ≤ 20000 := by
    have := hd.n1
    unfold sliceC; rw [List.length_take, List.length_drop]; omega
  obtain ⟨h1, h2⟩ := docR_doc (cs := sliceC (cellsD l) a b) (fun x hx => hd.cell (hsub x hx)) hlen
  have h3 := docR_len_slice (cellsD l) a b
  rw [hd.doc, List.length_reverse] at h3
  obtain ⟨h4, h5⟩ := h2 (Nat.le_trans h3 hd.len)
  exact ⟨h4, h5, h1⟩
theorem plain_cells {l : List RunD} (h : ∀ r ∈ l, OkR r) : plainT l = txt ((cellsD l).map (·.1)) := by
  induction l with
  | nil => rfl
  | cons r s ih =>
    have h1 := (h r (List.mem_cons_self ..)).rns.2.1
    rw [plainT, ih fun x hx => h x (List.mem_cons_of_mem _ hx), cellsD_cons, List.map_append, txt_append, List.map_map]
    congr 1
    have e : (List.map ((fun x => x.1) ∘ fun c => (c, r.attrs)) (rns r)) = rns r := by
      rw [show ((fun x : CD => x.1) ∘ fun c => (c, r.attrs)) = id from rfl, List.map_id]
    rw [e]
    conv => lhs; rw [h1, T_data]
theorem plain_parts {l : List RunD} (h : lenE l = 0) (a : Nat) (_ha : a ≤ (cellsD l).length) : plainT (sliceL l 0 a) ++ plainT (sliceL l a (cellsD l).length) = plainT l := by
  have p1 := part_of h 0 a
  have p2 := part_of h a (cellsD l).length
  rw [plain_cells (docF_of p1.right).oks, plain_cells (docF_of p2.right).oks, plain_cells (docF_of h).oks, p1.cells, p2.cells, ← txt_append, ← List.map_append]
  congr 2
  unfold sliceC
  rw [List.drop_zero, Nat.sub_zero, List.take_of_length_le (l := (cellsD l).drop a) (by rw [List.length_drop]; omega), List.take_append_drop]
end Go.Proofs.YtgalhfnejhboaaaDoor

/- The program's Normal, of a changeset that may be; its To, Nothing. -/
namespace Go.Proofs.YtgalhfnejhboaaaDoor
open Go.RowKit Rn Ch At

def nS (ops : List OpD) (k : Nat) : List OpD × Int := (ops.take k).foldl addG ([], 0)
theorem nS_succ {l : List OpD} {k : Nat} (h : k < l.length) : nS l (k + 1) = addG (nS l k) l[k] := by
  unfold nS
  rw [List.take_succ_eq_append_getElem h, List.foldl_append]; rfl
theorem nS_sm {l : List OpD} (hv : ∀ o ∈ l, VOp o) : ∀ k, k ≤ l.length → SmI (20000 * (k : Int)) (80000 * k) k (nS l k) := by
  intro k
  induction k with
  | zero => intro _; exact smI_nil
  | succ k ih =>
    intro h
    have h1 := hv l[k] (List.getElem_mem (by omega))
    have h2 := h1.n0
    have h3 := h1.n1
    have h4 := h1.text
    rw [nS_succ (by omega)]
    exact ((ih (by omega)).addG h2).more (by rw [Int.natCast_add]; omega) (by omega) (Nat.le_refl _)
theorem nS_all {f : Int} {l : List OpD} (h : OkC f l) : chgL (nS l l.length) = norm l := by
  unfold nS chgL norm fold
  rw [List.take_length, foldG_all]
  intro o ho
  have he := h.2.2.2.1 o ho
  rcases opE_kind he with k | k | k
  · have := (opE_keep k).1 he; omega
  · have := (opE_put k).1 he; omega
  · have := (opE_cut k).1 he; omega
set_option maxRecDepth 100000 in
set_option maxHeartbeats 4000000 in
theorem normalG_ok (f : Int) (v : Value) (ops : List OpD) (w : World) (hv : OpRow w v ops) (he : toE f ops = 0) :
    Calls Tryd.prog 22 #[chAgg f v] w fun e w' => ∃ u, e = .returned (.tuple #[chAgg f u, .int .i64 0]) ∧ OwnOps w' w.heap.size u (norm ops) ∧ Below w.heap.size w w' := by
  have HOK := Lib.hid ((toE_iff f ops).1 he)
  obtain ⟨W, hW⟩ : ∃ W, W = (w.alloc (.cells #[.int .i64 f, v] 25)).alloc (.cells #[.int .i64 0, .slice none 0 0] 25) := ⟨_, rfl⟩
  have BW := Lib.hid (show Below w.heap.size w W by rw [hW]; exact ((Below.refl _ _).alloc (Nat.le_refl _) _).alloc (by simp) _)
  have r0 : W.heap[w.heap.size + 1]? = some (.cells #[.int .i64 0, .slice none 0 0] 25 (0, 0)) := by
    rw [hW]
    have := heap_new (w.alloc (.cells #[.int .i64 f, v] 25)) (.cells #[.int .i64 0, .slice none 0 0] 25)
    rwa [World.size_alloc] at this
  have b0 : W.heap[w.heap.size]? = some (.cells #[.int .i64 f, v] 25 (0, 0)) := by
    rw [hW, Below.heap_alloc _ _ _ (by simp)]
    exact heap_new _ _
  have hlW : w.heap.size + 2 = W.heap.size := by rw [hW]; simp
  have HR := changeRight_any f v ops W (hv.below BW.out) (fun o ho => by
    have hvo := vop_of HOK.out ho
    exact ⟨by have := hvo.text; unfold maxLen; omega, hvo.attrs.sized⟩)
  rw [he] at HR
  have HR := Lib.hid HR
  have HW := Lib.hid hW
  have HR0 := Lib.hid r0
  have HB0 := Lib.hid b0
  obtain ⟨aa, acap, rfl, v1, v2, v3⟩ := hv
  have V3 := Lib.hid v3
  have hn : ops.length ≤ 9223372036854775807 := Nat.le_trans v1 v2
  have hl2 : ops.length ≤ 2000 := HOK.out.2.2.1
  have c0 := (cells2 HB0.out).1
  have c1 := (cells2 HB0.out).2.1
  clear hW v1 v2 v3 r0 b0 he
  go_enter Tryd.func22, Tryd.ntmps22
  go_wp2_with fail
  rw [← HW.out]
  go_wp2_with fail
  refine HR.out.mono ?_
  rintro e w1 ⟨rfl, b⟩
  have HB := Lib.hid (BW.out.trans (b.mono BW.out.size))
  have HC1 := Lib.hid ((b.block _ (lt_of_heap HB0.out)).trans HB0.out)
  have HA1 := Lib.hid ((b.block _ (lt_of_heap HR0.out)).trans HR0.out)
  have hs := HB.out.size
  have hs1 := lt_of_heap HA1.out
  have hlt0 : w.heap.size < w1.heap.size := by omega
  clear b c0 c1 HR0 HB0 HR
  have c0 := (cells2 HC1.out).1
  have c1 := (cells2 HC1.out).2.1
  go_wp2_with fail
  go_loopw [17] (fun i wr => ∃ (k : Nat) (ov : Value), i = .int .i64 (k : Int) ∧ k ≤ ops.length ∧ Below w.heap.size w wr ∧ wr.heap[w.heap.size]? = some (.cells #[.int .i64 f, .slice aa ops.length acap] 25 (0, 0)) ∧ wr.heap[w.heap.size + 1]? = some (.cells #[.int .i64 0, .slice none 0 0] 25 (0, 0)) ∧ NSt wr w1.heap.size w1.heap.size ov (nS ops k).1 (nS ops k).2) (fun i _ => ops.length - (intOf i).toNat)
  case atStart => exact ⟨0, .slice none 0 0, rfl, Nat.zero_le _, HB.out.alloc hs _, (Below.heap_alloc _ _ _ (by omega)).trans HC1.out, (Below.heap_alloc _ _ _ (by omega)).trans HA1.out, nst_new (heap_new _ _)⟩
  case round =>
    obtain ⟨k, ov, rfl, hk, hb, hC, hA, hN⟩ := hrel
    have HBW := Lib.hid hb
    have HCW := Lib.hid hC
    have HAW := Lib.hid hA
    have HN := Lib.hid hN
    have HSM := Lib.hid (nS_sm (fun o ho => vop_of HOK.out ho) k hk)
    have hlt1 := hN.lt
    by_cases hlt : k < ops.length
    · have hlt' : (k : Int) < (ops.length : Int) := by omega
      obtain ⟨b, off, rfl, hbl, xv, hra, _, x0', x1', x2', x3'⟩ := V3.out k hlt
      have hnext := nS_succ hlt
      have hvo := vop_of HOK.out (List.getElem_mem hlt)
      obtain ⟨o, ho⟩ : ∃ q, q = ops[k] := ⟨_, rfl⟩
      rw [← ho] at x0' x1' x2' hra hnext hvo
      obtain ⟨ra, rc, rfl⟩ := hra.shape
      have hs0 := hb.size
      have x0 : wr.cell? ⟨b, off + k * 4, none⟩ = some (.int .i64 o.kind) := (hb.cell (by exact hbl)).trans x0'
      have x1 : wr.cell? ⟨b, off + k * 4 + 1, none⟩ = some (.int .i64 o.n) := (hb.cell (by exact hbl)).trans x1'
      have x2 : wr.cell? ⟨b, off + k * 4 + 2, none⟩ = some (.string o.text) := (hb.cell (by exact hbl)).trans x2'
      have x3 : wr.cell? ⟨b, off + k * 4 + 3, none⟩ = some (.slice ra o.attrs.length rc) := (hb.cell (by exact hbl)).trans x3'
      have hbr : b < wr.heap.size := Nat.lt_of_lt_of_le hbl hs0
      have HNX := Lib.hid hnext
      have HRA := Lib.hid (fun W (h : Below w.heap.size w W) => hra.below h)
      have HVO := Lib.hid hvo
      clear hb hC hA hN x0' x1' x2' x3' hra ho hnext hvo c0 c1
      have bx := below_box wr (.cells #[.int .i64 o.kind, .int .i64 o.n, .string o.text, .slice ra o.attrs.length rc] 50)
      have HX := Lib.hid bx
      have HAD := Lib.hid (addG_any w1.heap.size w1.heap.size ov (nS ops k) o (.slice ra o.attrs.length rc) _ (HN.out.below bx) (Nat.le_refl _)
        (HSM.out.fits (by omega) (by omega) (by omega) HVO.out.n0 (by have := HVO.out.n1; omega) (by have := HVO.out.text; omega) HVO.out.attrs) (fun w' hw => HRA.out w' (HBW.out.trans ((HX.out.mono hs0).trans (hw.below.mono hs)))))
      clear bx
      go_wp2_with fail
      refine HAD.out.mono ?_
      rintro e w2 ⟨rfl, ov', hN2, hK2⟩
      have HB2 := Lib.hid (HBW.out.trans ((HX.out.mono hs0).trans (hK2.keep.below.mono hs)))
      have HA2 := Lib.hid (hK2.keep.kept _ _ _ _ ((HX.out.block _ (lt_of_heap HAW.out)).trans HAW.out) (by decide))
      have HC2 := Lib.hid (hK2.keep.kept _ _ _ _ ((HX.out.block _ (lt_of_heap HCW.out)).trans HCW.out) (by decide))
      have HN2 := Lib.hid hN2
      clear hN2 hK2
      go_wp2_with fail
      go_roundw
      case rel => exact ⟨k + 1, ov', by go_num, by omega, HB2.out, HC2.out, HA2.out, by rw [HNX.out]; exact HN2.out⟩
      case measure => simp [intOf]; omega
    · have hkn : k = ops.length := by omega
      have hlt' : ¬ (k : Int) < (ops.length : Int) := by omega
      obtain ⟨f0, f1, f2⟩ := HSM.out.fin (by omega) (by omega) (by omega)
      have HCH := Lib.hid (changeG_any w1.heap.size w1.heap.size ov (nS ops k) f wr hN (Nat.le_refl _) f0 f1 f2)
      have hchg : chgL (nS ops k) = norm ops := by rw [hkn]; exact nS_all HOK.out
      have hln : ¬ 2000 < (norm ops).length := by have := norm_len ops; omega
      have HCG := Lib.hid hchg
      have HLN := Lib.hid hln
      have c0 := (cells2 HCW.out).1
      clear hb hC hA hN f0 f1 f2 hchg hln
      go_wp2_with fail
      refine HCH.out.mono ?_
      rintro e w2 ⟨u, rfl, hO, hK⟩
      rw [HCG.out, if_neg HLN.out] at hO
      rw [HCG.out, if_neg HLN.out, if_neg HLN.out]
      have x1 := hK.kept _ _ _ _ HAW.out (by decide)
      have p0 : w2.cell? ⟨w.heap.size + 1, 0, none⟩ = some (.int .i64 0) := (cells2 x1).1
      have p1 : w2.cell? ⟨w.heap.size + 1, 1, none⟩ = some (.slice none 0 0) := (cells2 x1).2.1
      have p2 : w2.frozen? ⟨w.heap.size + 1, 0, none⟩ = false := (cells2 x1).2.2.1
      have p3 : w2.frozen? ⟨w.heap.size + 1, 1, none⟩ = false := (cells2 x1).2.2.2
      have HX1 := Lib.hid x1
      obtain ⟨cps, hcp, hcO⟩ := hO
      obtain ⟨ca, cc, rfl⟩ := own_slice hcO.1
      have HO := Lib.hid (And.intro hcp hcO)
      have HBE := Lib.hid (HBW.out.trans (hK.below.mono hs))
      clear hK x1 hcp hcO c0
      go_wp2_with fail
      obtain ⟨q1, q2, q3⟩ := agg_set (.int .i64 f) (.slice ca cps.length cc) HX1.out
      refine bodyPost_ret (results_chgN rfl rfl rfl (cells2 q1).1 (cells2 q1).2.1) rfl ?_
      exact ⟨.slice ca cps.length cc, rfl, ⟨cps, HO.out.1, (HO.out.2.keep q2 (by decide) (by decide)).base (by omega)⟩, HBE.out.trans (q2.below.mono (by omega))⟩
set_option maxRecDepth 100000 in
theorem nothingG_ok (n : Int) (w : World) (h0 : 0 ≤ n) (h1 : n ≤ 20000) :
    Calls Tryd.prog 19 #[.int .i64 n] w fun e w' => e = .returned (.tuple #[chAgg n (.slice none 0 0), .int .i64 0]) ∧ Below w.heap.size w w' := by
  have he : toE n [] = 0 := (toE_iff _ _).2 ⟨h0, h1, by simp, fun o ho => (by cases ho), h0, by simpa [dl, ins] using h1⟩
  go_enter Tryd.func19, Tryd.ntmps19
  go_wp2_with fail
  obtain ⟨W, hW⟩ : ∃ W, W = (w.alloc (.cells #[.int .i64 0, .slice none 0 0] 25)).alloc (.cells #[.int .i64 n, .slice none 0 0] 25) := ⟨_, rfl⟩
  rw [← hW]
  have BW := Lib.hid (show Below w.heap.size w W by rw [hW]; exact ((Below.refl _ _).alloc (Nat.le_refl _) _).alloc (by simp) _)
  have HC := Lib.hid (show W.heap[w.heap.size + 1]? = some (.cells #[.int .i64 n, .slice none 0 0] 25 (0, 0)) by
    rw [hW]
    have := heap_new (w.alloc (.cells #[.int .i64 0, .slice none 0 0] 25)) (.cells #[.int .i64 n, .slice none 0 0] 25)
    rwa [World.size_alloc] at this)
  have HA := Lib.hid (show W.heap[w.heap.size]? = some (.cells #[.int .i64 0, .slice none 0 0] 25 (0, 0)) by
    rw [hW, Below.heap_alloc _ _ _ (by simp)]
    exact heap_new _ _)
  have HR := changeRight_any n (.slice none 0 0) [] W (OpRow.nil W) (fun o ho => by cases ho)
  rw [he] at HR
  have HR := Lib.hid HR
  clear hW he
  refine HR.out.mono ?_
  rintro e w1 ⟨rfl, b⟩
  have HB := Lib.hid (BW.out.trans (b.mono BW.out.size))
  have HC1 := Lib.hid ((b.block _ (lt_of_heap HC.out)).trans HC.out)
  have HA1 := Lib.hid ((b.block _ (lt_of_heap HA.out)).trans HA.out)
  have c0 := (cells2 HC1.out).1
  have c1 := (cells2 HC1.out).2.1
  obtain ⟨p0, p1, p2, p3⟩ := cells2 HA1.out
  have hl1 := lt_of_heap HA1.out
  clear b HR HC HA
  go_wp2_with fail
  obtain ⟨q1, q2, q3⟩ := agg_set (.int .i64 n) (.slice none 0 0) HA1.out
  refine bodyPost_ret (results_chgN rfl rfl rfl (cells2 q1).1 (cells2 q1).2.1) rfl ?_
  exact ⟨rfl, HB.out.trans q2.below⟩
end Go.Proofs.YtgalhfnejhboaaaDoor

/- What stands ahead of all operations, or behind them, stays. -/
namespace Go.Proofs.YtgalhfnejhboaaaDoor
open Go.RowKit Rn Ch At

def nSum : List OpD → Int
  | [] => 0
  | o :: r => o.n + nSum r
theorem nSum_kd {ops : List OpD} (h : allE ops) : nSum ops = kd ops := by
  induction ops with
  | nil => rfl
  | cons o r ih =>
    rw [nSum, kd, ih fun x hx => h x (List.mem_cons_of_mem _ hx)]
    split
    · rename_i k
      rw [((opE_put k).1 (h o (List.mem_cons_self ..))).1]
    · rfl
theorem nSum_append (a b : List OpD) : nSum (a ++ b) = nSum a + nSum b := by
  induction a with
  | nil => simp [nSum]
  | cons o r ih => simp only [List.cons_append, nSum, ih]; omega
/-- How many stand ahead of all operations. -/
def firstN (f : Int) : List OpD → Int
  | [] => f
  | o :: _ => if o.kind = 1 ∧ o.attrs.length = 0 then o.n else 0
def usedN (f : Int) (ops : List OpD) : Int := if ops = [] then f else nSum ops
/-- The cells ahead. -/
theorem act_ahead {f : Int} {ops : List OpD} {cs : List CD} (h : allE ops) (hk : kd ops ≤ (cs.length : Int)) (hf : f = (cs.length : Int)) (hr : ∀ x ∈ cs, rgtB x.2 = true) :
    ∃ a : Nat, firstN f ops = (a : Int) ∧ a ≤ cs.length ∧ (act ops cs).take a = cs.take a ∧ a ≤ (act ops cs).length := by
  cases ops with
  | nil => exact ⟨cs.length, hf, Nat.le_refl _, rfl, Nat.le_refl _⟩
  | cons o r =>
    rw [firstN]
    split
    · rename_i hb
      have hn := opE_n (h o (List.mem_cons_self ..)) (by omega)
      have hr0 := kd_nonneg fun x hx => h x (List.mem_cons_of_mem _ hx)
      rw [kd, if_neg (by omega)] at hk
      have e : o.n.toNat ≤ cs.length := by omega
      have ha : o.attrs = [] := List.length_eq_zero_iff.1 hb.2
      refine ⟨o.n.toNat, by omega, e, ?_, ?_⟩
      · rw [(act_keep hb.1).1, ha, map_nil fun x hx => hr x (List.mem_of_mem_take hx)]
        rw [List.take_append_of_le_length (by rw [List.length_take]; omega), List.take_of_length_le (by rw [List.length_take]; omega)]
      · rw [(act_keep hb.1).1, List.length_append, List.length_map, List.length_take]; omega
    · exact ⟨0, rfl, Nat.zero_le _, rfl, Nat.zero_le _⟩
/-- The cells behind. -/
theorem act_behind (ops : List OpD) : ∀ {cs : List CD}, allE ops → kd ops ≤ (cs.length : Int) → ∃ p, act ops cs = p ++ cs.drop (kd ops).toNat := by
  induction ops with
  | nil => intro cs _ _; exact ⟨[], rfl⟩
  | cons o r ih =>
    intro cs h hk
    have hr : allE r := fun x hx => h x (List.mem_cons_of_mem _ hx)
    have hr0 := kd_nonneg hr
    have ho := h o (List.mem_cons_self ..)
    rw [kd] at hk ⊢
    rcases opE_kind ho with k | k | k
    · have hn := opE_n ho (by omega)
      rw [if_neg (by omega)] at hk ⊢
      obtain ⟨p, hp⟩ := ih (cs := cs.drop o.n.toNat) hr (by rw [List.length_drop]; omega)
      refine ⟨(cs.take o.n.toNat).map (appC o.attrs) ++ p, ?_⟩
      rw [(act_keep k).1, hp, List.append_assoc, List.drop_drop]
      congr 3
      omega
    · rw [if_pos k] at hk ⊢
      obtain ⟨p, hp⟩ := ih (cs := cs) hr (by omega)
      refine ⟨insC o ++ p, ?_⟩
      rw [(act_ins k).1, hp, List.append_assoc, Int.zero_add]
    · have hn := opE_n ho (by omega)
      rw [if_neg (by omega)] at hk ⊢
      obtain ⟨p, hp⟩ := ih (cs := cs.drop o.n.toNat) hr (by rw [List.length_drop]; omega)
      refine ⟨p, ?_⟩
      rw [(act_cut k).1, hp, List.drop_drop]
      congr 2
      omega
structure AheadF (l X : List RunD) (f t : Int) (N : List OpD) : Prop where
  ex : ∃ a u left : Nat, firstN f N = (a : Int) ∧ usedN f N = (u : Int) ∧ f - (u : Int) = (left : Int) ∧ f = ((cellsD l).length : Int) ∧ t = ((cellsD X).length : Int) ∧ a ≤ (cellsD l).length ∧ a ≤ (cellsD X).length ∧ u ≤ (cellsD l).length ∧ left ≤ (cellsD X).length ∧
    sliceL l 0 a = sliceL X 0 a ∧ sliceL l u (cellsD l).length = sliceL X ((cellsD X).length - left) (cellsD X).length
theorem aheadF_of {l : List RunD} {f : Int} {ops : List OpD} (h : appE l f ops = 0) : AheadF l (appL l f ops) f (toN f ops) (norm ops) := by
  have ha := appF_of h
  have hg := fitG_of ha.fit
  obtain ⟨n1, n2, n3, n4⟩ := norm_sums hg.okc.2.2.2.1 hg.okc.ins
  obtain ⟨e1, _⟩ := eqv_norm hg.okc.2.2.2.1 hg.okc.ins (cellsD l) (fun x hx => (hg.doc.cell hx).2)
  have hfc := hg.fc
  have hkd := hg.okc.2.2.2.2.1
  have hk : kd (norm ops) ≤ ((cellsD l).length : Int) := by omega
  have hk0 := kd_nonneg n1
  have hX : cellsD (appL l f ops) = act (norm ops) (cellsD l) := by rw [ha.cells, e1]
  obtain ⟨a, a1, a2, a3, a4⟩ := act_ahead n1 hk hfc (fun x hx => (hg.doc.cell hx).2)
  obtain ⟨p, hp⟩ := act_behind (norm ops) (cs := cellsD l) n1 hk
  have hnn := ha.nn
  have hlen : ((cellsD (appL l f ops)).length : Int) = toN f ops := by rw [ha.cells]; exact hnn
  have hfirst : sliceL l 0 a = sliceL (appL l f ops) 0 a := by
    unfold sliceL sliceC
    rw [List.drop_zero, List.drop_zero, hX, Nat.sub_zero, a3]
  by_cases hN : norm ops = []
  · refine ⟨a, (cellsD l).length, 0, a1, by unfold usedN; rw [if_pos hN]; exact hfc, by omega, hfc, by omega, a2, by rw [hX]; exact a4, Nat.le_refl _, Nat.zero_le _, hfirst, ?_⟩
    unfold sliceL sliceC
    rw [Nat.sub_self, Nat.sub_zero, Nat.sub_self]; rfl
  · have hu : usedN f (norm ops) = kd (norm ops) := by unfold usedN; rw [if_neg hN, nSum_kd n1]
    refine ⟨a, (kd (norm ops)).toNat, (cellsD l).length - (kd (norm ops)).toNat, a1, by omega, by omega, hfc, by omega, a2, by rw [hX]; exact a4, by omega, ?_, hfirst, ?_⟩
    · rw [hX, hp, List.length_append, List.length_drop]; omega
    · unfold sliceL sliceC
      congr 2
      rw [hX, hp, List.length_append, List.length_drop, List.take_of_length_le (by rw [List.length_drop]; omega), List.take_of_length_le (by rw [List.length_drop, List.length_append, List.length_drop]; omega)]
      rw [show p.length + ((cellsD l).length - (kd (norm ops)).toNat) - ((cellsD l).length - (kd (norm ops)).toNat) = p.length by omega, List.drop_left]
end Go.Proofs.YtgalhfnejhboaaaDoor
