/- Texts of this seat, put together: Ge. -/
import Derived.Test.YtlgpihboojgpmaaGF7
/- What follows the taking away of all: nothing but what is put in. -/
namespace Go.Proofs.Ytlgpihboojgpmaa
open Go.RowKit Rn Ch
open At hiding put
open Cp (Atm atm atms fol FolF folN sizF)

namespace Cp
/-- The runes put in, in their order. -/
def chrs : List Atm → List Nat
  | [] => []
  | .ins c _ :: r => c :: chrs r
  | .keep _ :: r => chrs r
  | .del :: r => chrs r
theorem chrs_append (a b : List Atm) : chrs (a ++ b) = chrs a ++ chrs b := by
  induction a with
  | nil => rfl
  | cons x r ih => cases x <;> simp only [List.cons_append, chrs, ih]
theorem chrs_sim {a b : List Atm} (h : Sim a b) : chrs a = chrs b := by
  induction h with
  | refl a => rfl
  | symm _ ih => exact ih.symm
  | trans _ _ i j => exact i.trans j
  | swap p c a q => rw [chrs_append, chrs_append]; rfl
  | tail p => rw [chrs_append]; simp [chrs]
theorem chrs_keep (a : AL) (n : Nat) : chrs (List.replicate n (.keep a)) = [] := by
  induction n with
  | zero => rfl
  | succ n ih => rw [List.replicate_succ]; exact ih
theorem chrs_del (n : Nat) : chrs (List.replicate n .del) = [] := by
  induction n with
  | zero => rfl
  | succ n ih => rw [List.replicate_succ]; exact ih
theorem chrs_ins (a : AL) (cs : List Nat) : chrs (cs.map fun c => .ins c a) = cs := by
  induction cs with
  | nil => rfl
  | cons c r ih => rw [List.map_cons, chrs, ih]
theorem cat_add (a b : ByteArray) : a ++ b = cat a b := ba_eq (by rw [cat_data]; simp)
/-- The texts of all, one behind the other. -/
def catL (ops : List OpD) : ByteArray := ops.foldl (fun s o => s ++ o.text) ⟨#[]⟩
theorem catL_T {ops : List OpD} (h : allE ops) : catL ops = T (chrs (atms ops)) := by
  have key : ∀ (ops : List OpD), allE ops → ∀ cs, ops.foldl (fun s o => s ++ o.text) (T cs) = T (cs ++ chrs (atms ops)) := by
    intro ops
    induction ops with
    | nil => intro _ cs; rw [show chrs (atms []) = [] from rfl, List.append_nil]; rfl
    | cons o r ih =>
      intro h cs
      rw [List.foldl_cons, atms_cons, chrs_append, ← List.append_assoc, cat_add]
      have hr : allE r := fun x hx => h x (List.mem_cons_of_mem _ hx)
      rcases opE_shape (h o (List.mem_cons_self ..)) with ⟨k, a, b, c⟩ | ⟨k, a, b, c, d, e, f, g⟩ | ⟨k, a, b, c⟩
      · rw [atm_keep k, chrs_keep, List.append_nil, b, cat_nil rfl]
        exact ih hr cs
      · rw [atm_ins k, chrs_ins]
        conv => lhs; rw [c, catT]
        exact ih hr _
      · rw [atm_del k, chrs_del, List.append_nil, b, cat_nil rfl]
        exact ih hr cs
  have := key ops h []
  rw [List.nil_append] at this
  rw [← this]
  have e : T [] = ⟨#[]⟩ := by rfl
  rw [e]; rfl
def isI (o : OpD) : Bool := decide (o.kind = 2)
theorem fol_gone (fi : Bool) : ∀ (ops : List OpD) (n : Nat), allE ops → kd ops ≤ (n : Int) → fol fi (List.replicate n .del) (atms ops) = atms (ops.filter isI) := by
  intro ops
  induction ops with
  | nil =>
    intro n _ _
    have := fol_zdn fi [] n
    rw [List.append_nil, fol_nil] at this
    exact this
  | cons o r ih =>
    intro n h hn
    have hr : allE r := fun x hx => h x (List.mem_cons_of_mem _ hx)
    rw [atms_cons]
    have hk : kd (o :: r) = (if o.kind = 2 then 0 else o.n) + kd r := by rw [kd]
    rcases opE_shape (h o (List.mem_cons_self ..)) with ⟨k, a, b, c⟩ | ⟨k, a, b, c, d, e, f, g⟩ | ⟨k, a, b, c⟩
    · rw [hk, if_neg (by omega)] at hn
      have h0 : 0 ≤ kd r := by have := (sums_atms hr).1; omega
      have e1 : List.replicate n Atm.del = List.replicate o.n.toNat .del ++ List.replicate (n - o.n.toNat) .del := by rw [List.replicate_append_replicate]; congr 1; omega
      rw [atm_keep k, e1, fol_zdk, ih _ hr (by omega), List.filter_cons_of_neg (by simp [isI, k])]
    · rw [hk, if_pos k] at hn
      have hni : ni (List.replicate n .del) := by
        intro c a r e
        cases n with
        | zero => cases e
        | succ n => rw [List.replicate_succ] at e; cases e
      rw [atm_ins k, fol_inss fi (.inr hni), ih _ hr (by omega), List.filter_cons_of_pos (by simp [isI, k]), atms_cons, atm_ins k]
    · rw [hk, if_neg (by omega)] at hn
      have h0 : 0 ≤ kd r := by have := (sums_atms hr).1; omega
      have e1 : List.replicate n Atm.del = List.replicate o.n.toNat .del ++ List.replicate (n - o.n.toNat) .del := by rw [List.replicate_append_replicate]; congr 1; omega
      rw [atm_del k, e1, fol_zdd, ih _ hr (by omega), List.filter_cons_of_neg (by simp [isI, k])]
theorem put_two {l : List OpD} {o : OpD} (h : ∀ x ∈ l, x.kind = 2) (k : o.kind = 2) : ∀ x ∈ put l o, x.kind = 2 := by
  cases l with
  | nil => intro x hx; rw [List.mem_singleton.1 hx]; exact k
  | cons y r =>
    intro x hx
    rw [put] at hx
    split at hx
    · rcases List.mem_cons.1 hx with rfl | hx
      · exact h y (List.mem_cons_self ..)
      · exact h x (List.mem_cons_of_mem _ hx)
    · rcases List.mem_cons.1 hx with rfl | hx
      · exact k
      · exact h x hx
theorem norm_two {ops : List OpD} (h : ∀ x ∈ ops, x.kind = 2) : ∀ x ∈ norm ops, x.kind = 2 := by
  have key : ∀ (ops : List OpD), (∀ x ∈ ops, x.kind = 2) → ∀ s : List OpD × Int, (∀ x ∈ s.1, x.kind = 2) → s.2 = 0 → (∀ x ∈ (ops.foldl Ch.add s).1, x.kind = 2) ∧ (ops.foldl Ch.add s).2 = 0 := by
    intro ops
    induction ops with
    | nil => intro _ s h1 h2; exact ⟨h1, h2⟩
    | cons o r ih =>
      intro h s h1 h2
      rw [List.foldl_cons]
      have k := h o (List.mem_cons_self ..)
      have e := add_ins s k
      exact ih (fun x hx => h x (List.mem_cons_of_mem _ hx)) _ (by rw [e]; exact put_two h1 k) (by rw [e]; exact h2)
  obtain ⟨h1, h2⟩ := key ops h ([], 0) (fun x hx => by cases hx) rfl
  have ef : flush (fold ops) = (fold ops).1 := by
    unfold flush
    rw [if_neg (by show ¬ 0 < (ops.foldl Ch.add ([], 0)).2; omega)]
  intro x hx
  unfold norm at hx
  rw [ef] at hx
  have hx := List.mem_reverse.1 hx
  have ht : trim (fold ops).1 = (fold ops).1 := by
    cases hl : (fold ops).1 with
    | nil => rfl
    | cons y r =>
      have := h1 y (by show y ∈ (fold ops).1; rw [hl]; exact List.mem_cons_self ..)
      rw [trim, if_neg (by omega)]
  rw [ht] at hx
  exact h1 x hx
end Cp
/-- What is left of b behind the taking away of all. -/
structure GoneF (fi : Bool) (f : Int) (B R : List OpD) : Prop where
  e : folE fi f f [⟨3, f, ⟨#[]⟩, []⟩] B = 0
  r : folR fi f f [⟨3, f, ⟨#[]⟩, []⟩] B = R
  n : toN f [⟨3, f, ⟨#[]⟩, []⟩] = 0
  ok : OkC 0 R
  two : ∀ x ∈ R, x.kind = 2
  cat : Cp.catL R = Cp.catL B
theorem gone_to {f : Int} (h0 : 1 ≤ f) (h1 : f ≤ 20000) : toE f [⟨3, f, ⟨#[]⟩, []⟩] = 0 ∧ toN f [⟨3, f, ⟨#[]⟩, []⟩] = 0 ∧ norm [⟨3, f, ⟨#[]⟩, []⟩] = [⟨3, f, ⟨#[]⟩, []⟩] := by
  have h : toE f [⟨3, f, ⟨#[]⟩, []⟩] = 0 := (toE_iff _ _).2 ⟨by omega, h1, by simp, fun o ho => by
    rw [List.mem_singleton.1 ho]
    exact (opE_cut rfl).2 ⟨h0, rfl, rfl⟩, by simp [kd], by simp [dl, Ch.ins]⟩
  refine ⟨h, by rw [toN_ok h]; simp [dl, Ch.ins], ?_⟩
  show (trim (flush (Ch.add ([], 0) ⟨3, f, ⟨#[]⟩, []⟩))).reverse = _
  rw [Cp.add_del _ rfl]
  show (trim (flush ([], 0 + f))).reverse = _
  unfold flush
  rw [if_pos (by show 0 < 0 + f; omega)]
  show (trim [delO (0 + f)]).reverse = _
  rw [Int.zero_add]
  rfl
theorem gone_f (fi : Bool) {f : Int} {B : List OpD} (hB : toE f B = 0) (hf : f ≠ 0) : ∃ R, GoneF fi f B R := by
  obtain ⟨a1, a2, a3, a4, a5, a6, a7, a8⟩ := ok_lims hB
  obtain ⟨g1, g2, g3⟩ := gone_to (show 1 ≤ f by omega) a2
  obtain ⟨n1, n2, n3, n4⟩ := norm_sums a5 a6
  have okN := (norm_ok ((toE_iff _ _).1 hB)).1
  have ea : atms [⟨3, f, ⟨#[]⟩, []⟩] = List.replicate f.toNat .del := by rw [Cp.atms_one]; exact Cp.atm_del rfl
  have hfl : Cp.fol fi (atms [⟨3, f, ⟨#[]⟩, []⟩]) (atms (norm B)) = atms ((norm B).filter Cp.isI) := by
    rw [ea]
    exact Cp.fol_gone fi _ _ n1 (by have := okN.2.2.2.2.1; omega)
  have hall : allE ((norm B).filter Cp.isI) := fun o ho => n1 o (List.mem_filter.1 ho).1
  have htw : ∀ x ∈ (norm B).filter Cp.isI, x.kind = 2 := fun x hx => by
    have := (List.mem_filter.1 hx).2
    simpa [Cp.isI] using this
  have e : folN fi (norm [⟨3, f, ⟨#[]⟩, []⟩]) (norm B) = norm ((norm B).filter Cp.isI) := by
    unfold folN
    rw [g3, hfl, Cp.norm_atms hall]
  obtain ⟨hF, hn⟩ := folF_of g1 hB
  rw [g3] at hF hn
  obtain ⟨x1, x2, x3, x4, _, _, x7, _⟩ := hF.all fi
  have hkd : ∀ l : List OpD, (∀ x ∈ l, x.kind = 2) → kd l = 0 ∧ dl l = 0 := fun l => by
    induction l with
    | nil => intro _; exact ⟨rfl, rfl⟩
    | cons o r ih =>
      intro h
      obtain ⟨i1, i2⟩ := ih fun x hx => h x (List.mem_cons_of_mem _ hx)
      have k := h o (List.mem_cons_self ..)
      rw [kd, dl, if_pos k, if_neg (by omega), i1, i2]
      exact ⟨rfl, rfl⟩
  have hins : Ch.ins ((norm B).filter Cp.isI) = Ch.ins (norm B) := by
    have : ∀ l : List OpD, Ch.ins (l.filter Cp.isI) = Ch.ins l := fun l => by
      induction l with
      | nil => rfl
      | cons o r ih =>
        by_cases k : o.kind = 2
        · rw [List.filter_cons_of_pos (by simp [Cp.isI, k]), Ch.ins, Ch.ins, ih]
        · rw [List.filter_cons_of_neg (by simp [Cp.isI, k]), Ch.ins, if_neg k, ih]; omega
    exact this _
  obtain ⟨k1, k2⟩ := hkd _ htw
  have okF : OkC 0 ((norm B).filter Cp.isI) := ⟨Int.le_refl _, by omega, Nat.le_trans (List.length_filter_le _ _) a7, hall, by omega, by rw [k2, hins, n4]; omega⟩
  obtain ⟨o1, o2, o3⟩ := norm_ok okF
  have hs : sizF fi f [⟨3, f, ⟨#[]⟩, []⟩] (norm B) ≤ 20000 := by
    rw [← x7]
    have e' := e
    rw [g3] at e'
    rw [e', o2, o3, k2, hins, n4]
    simp only [dl, Ch.ins]
    simp
    omega
  have h0 : folE fi f f [⟨3, f, ⟨#[]⟩, []⟩] B = 0 := by
    unfold folE
    rw [if_neg (by unfold nrmF; rw [if_neg (by rw [g1]; simp), if_neg (by rw [hB]; simp), if_neg (by simp)]; simp), e, g3, if_neg (by omega), if_neg (by have := o1.2.2.1; omega)]
  refine ⟨norm ((norm B).filter Cp.isI), h0, by unfold folR; rw [if_pos h0, e], g2, o1, Cp.norm_two htw, ?_⟩
  have e' := e
  rw [g3] at e'
  rw [e'] at x2
  rw [Cp.catL_T o1.2.2.2.1, Cp.catL_T a5, Cp.chrs_sim x2, hfl]
  have key : ∀ l : List OpD, allE l → Cp.chrs (atms (l.filter Cp.isI)) = Cp.chrs (atms l) := fun l => by
    induction l with
    | nil => intro _; rfl
    | cons o r ih =>
      intro h
      have hr := ih fun x hx => h x (List.mem_cons_of_mem _ hx)
      rcases Cp.opE_shape (h o (List.mem_cons_self ..)) with ⟨k, _⟩ | ⟨k, _⟩ | ⟨k, _⟩
      · rw [List.filter_cons_of_neg (by simp [Cp.isI, k]), Cp.atms_cons, Cp.chrs_append, Cp.atm_keep k, Cp.chrs_keep, List.nil_append, hr]
      · rw [List.filter_cons_of_pos (by simp [Cp.isI, k]), Cp.atms_cons, Cp.atms_cons, Cp.chrs_append, Cp.chrs_append, hr]
      · rw [List.filter_cons_of_neg (by simp [Cp.isI, k]), Cp.atms_cons, Cp.chrs_append, Cp.atm_del k, Cp.chrs_del, List.nil_append, hr]
  rw [key _ n1]
  exact congrArg T (Cp.chrs_sim (Cp.sim_norm a5 a6))
theorem catL_snoc (l : List OpD) (o : OpD) : Cp.catL (l ++ [o]) = Cp.catL l ++ o.text := by unfold Cp.catL; rw [List.foldl_append]; rfl
theorem catL_take {f : Int} {ops : List OpD} (h : OkC f ops) : ∀ k, k ≤ ops.length → (Cp.catL (ops.take k)).size ≤ 80000 * k := by
  intro k
  induction k with
  | zero => intro _; exact Nat.le_refl _
  | succ k ih =>
    intro hk
    rw [List.take_succ_eq_append_getElem (by omega), catL_snoc, Cp.cat_add, cat_size]
    have := (vop_of h (List.getElem_mem (show k < ops.length by omega))).text
    have := ih (by omega)
    omega
set_option maxRecDepth 100000 in
set_option maxHeartbeats 8000000 in
theorem fgone_walk (f : Int) (vb : Value) (B : List OpD) (fi : Bool) (w : World) (hv : OpRow w vb B) (hz : OSized B) :
    Calls Try.prog 11 #[chAgg f vb, .bool fi] w (OutB w true) := by
  obtain ⟨ub, tb, rfl⟩ := hv.shape
  obtain ⟨W, hW, k0, bW⟩ : ∃ W, W = w.alloc (.cells #[.int .i64 f, .slice ub B.length tb] 24) ∧ W.heap[w.heap.size]? = some (.cells #[.int .i64 f, .slice ub B.length tb] 24 (0, 0)) ∧ Below w.heap.size w W := ⟨_, rfl, heap_new _ _, below_box _ _⟩
  have RB := Lib.hid (hv.below bW)
  have ZB := Lib.hid hz
  have HK := Lib.hid k0
  have BW := Lib.hid bW
  have HW := Lib.hid hW
  clear hv hz k0 bW hW
  go_enter Try.func11, Try.ntmps11
  go_wp2_with fail
  rw [← HW.out]
  refine (awake7_any _).mono ?_
  rintro e w1 ⟨rfl, b⟩
  have B1 := Lib.hid b
  obtain ⟨p0, p1, pl⟩ := box_at (heap_up HK.out b)
  clear b
  go_wp2_with fail
  refine (changeRight_any f _ B w1 (RB.out.below B1.out) ZB.out).mono ?_
  rintro e w2 ⟨rfl, b2⟩
  have B2 := Lib.hid (B1.out.trans (b2.mono B1.out.size))
  clear b2 p0 p1 pl
  obtain ⟨p0, p1, pl⟩ := box_at (heap_up HK.out B2.out)
  have BG := Lib.hid (BW.out.trans (B2.out.mono BW.out.size))
  by_cases hE : toE f B = 0
  · rw [hE]
    by_cases hf : f = 0
    · have t0 : (f == 0) = true := by rw [hf]; rfl
      clear hE hf
      go_wp2_with fail
      go_ret
      exact ⟨rfl, BG.out⟩
    · obtain ⟨R, hG⟩ := gone_f fi hE hf
      have t0 : (f == 0) = false := by rw [beq_eq_false_iff_ne]; exact hf
      obtain ⟨a1, a2, _⟩ := ok_lims hE
      have ZA := Lib.hid (show OSized [⟨3, f, ⟨#[]⟩, []⟩] from okc_sized7 ((toE_iff _ _).1 (gone_to (show 1 ≤ f by omega) a2).1))
      have HG := Lib.hid hG
      have HE := Lib.hid hE
      clear hE hf hG a1 a2
      obtain ⟨X, hX, rX, xX, bX⟩ : ∃ X, X = (w2.alloc (.cells #[.int .i64 3, .int .i64 f, .string ⟨#[]⟩, .slice none 0 0] 49)).alloc (.cells #[.int .i64 f, .slice (some ⟨w2.heap.size, 0, none⟩) 1 1] 24) ∧
          OpRow X (.slice (some ⟨w2.heap.size, 0, none⟩) 1 1) [⟨3, f, ⟨#[]⟩, []⟩] ∧ X.heap[w2.heap.size + 1]? = some (.cells #[.int .i64 f, .slice (some ⟨w2.heap.size, 0, none⟩) 1 1] 24 (0, 0)) ∧ Below w2.heap.size w2 X :=
        ⟨_, rfl, (opRow_new w2 [(⟨3, f, ⟨#[]⟩, []⟩, nilV)] (fun p hp => by rw [List.mem_singleton.1 hp]; exact ⟨rfl, rfl⟩) (by show 1 ≤ maxLen; decide)).below (below_box _ _), (box2 _ _ _).2.1, (box2 _ _ _).2.2⟩
      have HX := Lib.hid hX
      have HRX := Lib.hid rX
      have BX := Lib.hid (B2.out.trans (bX.mono B2.out.size))
      have pl2 : w.heap.size ≠ w2.heap.size + 1 := by omega
      clear hX rX xX bX
      go_wp2_with fail
      rw [← HX.out]
      refine (folH_okR HRX.out ZA.out (RB.out.below BX.out) ZB.out HG.out.e HG.out.n HG.out.r).mono ?_
      rintro e w3 ⟨ra, rc, rfl, o3, b3⟩
      obtain ⟨V, hV, xV, bV⟩ : ∃ V, V = w3.alloc (.cells #[.int .i64 0, .slice ra R.length rc] 24) ∧ V.heap[w3.heap.size]? = some (.cells #[.int .i64 0, .slice ra R.length rc] 24 (0, 0)) ∧ Below w3.heap.size w3 V := ⟨_, rfl, heap_new _ _, below_box _ _⟩
      have HV := Lib.hid hV
      have RR := Lib.hid (o3.row.below bV)
      have B3 := Lib.hid ((BX.out.trans (b3.mono BX.out.size)).trans (bV.mono (Nat.le_trans BX.out.size b3.size)))
      obtain ⟨x0, x1, xl⟩ := box_at xV
      obtain ⟨y0, y1, yl⟩ := box_at (heap_up HK.out B3.out)
      have RBV := Lib.hid (RB.out.below B3.out)
      have BGV := Lib.hid (BW.out.trans (B3.out.mono BW.out.size))
      have hRl : R.length ≤ 2000 := HG.out.ok.2.2.1
      have okB := (toE_iff _ _).1 HE.out
      have hBl : B.length ≤ 2000 := okB.2.2.1
      have OKB := Lib.hid okB
      clear hV o3 b3 bV xV p0 p1 pl pl2 okB
      go_wp2_with fail
      rw [← HV.out]
      go_loopw [10, 12] (fun sv iv wr => ∃ k : Nat, iv = .int .i64 (k : Int) ∧ k ≤ R.length ∧ sv = .string (Cp.catL (R.take k)) ∧ wr = V) (fun _ iv _ => R.length - (intOf iv).toNat)
      case atStart => exact ⟨0, rfl, Nat.zero_le _, rfl, rfl⟩
      case round =>
        obtain ⟨k, rfl, hk, rfl, hw⟩ := hrel
        have hw := hw.symm
        subst hw
        by_cases hlt : k < R.length
        · have c1 : (k : Int) < (R.length : Int) := by omega
          have ck0 : (0 : Int) ≤ (k : Int) := by omega
          obtain ⟨b, off, rfl, hbl, _, m0, _, m2⟩ := row_at RR.out k hlt
          rw [HG.out.two _ (List.getElem_mem hlt)] at m0
          have hsz := catL_take HG.out.ok k hk
          have hsz2 := (vop_of HG.out.ok (List.getElem_mem hlt)).text
          have hsum : (9223372036854775807 < (Cp.catL (R.take k)).size + R[k].text.size) = False := by
            have : ¬ 9223372036854775807 < (Cp.catL (R.take k)).size + R[k].text.size := by omega
            exact eq_false this
          have HS := Lib.hid (show Cp.catL (R.take (k + 1)) = Cp.catL (R.take k) ++ R[k].text by rw [List.take_succ_eq_append_getElem hlt, catL_snoc])
          clear hsz hsz2
          generalize R[k].text = tx at *
          generalize Cp.catL (R.take k) = sx at *
          go_wp2_with fail
          go_roundw
          case rel => exact ⟨k + 1, by go_num, by omega, by rw [HS.out], by trivial⟩
          case measure => simp [intOf]; omega
        · have c1 : ¬ (k : Int) < (R.length : Int) := by omega
          have hkl : k = R.length := by omega
          have HCAT := Lib.hid (show Cp.catL (R.take k) = Cp.catL B by rw [hkl, List.take_length]; exact HG.out.cat)
          rw [HCAT.out]
          clear hkl
          go_wp2_with fail
          go_loopw [11, 13] (fun sv iv wr => ∃ k : Nat, iv = .int .i64 (k : Int) ∧ k ≤ B.length ∧ sv = .string (Cp.catL (B.take k)) ∧ wr = V) (fun _ iv _ => B.length - (intOf iv).toNat)
          case atStart => exact ⟨0, rfl, Nat.zero_le _, rfl, by trivial⟩
          case round =>
            obtain ⟨k2, rfl, hk2, rfl, hw⟩ := hrel
            have hw := hw.symm
            subst hw
            by_cases hlt : k2 < B.length
            · have c2 : (k2 : Int) < (B.length : Int) := by omega
              have ck2 : (0 : Int) ≤ (k2 : Int) := by omega
              obtain ⟨b, off, rfl, hbl, _, _, _, m2⟩ := row_at RBV.out k2 hlt
              have hsz := catL_take OKB.out k2 hk2
              have hsz2 := (vop_of OKB.out (List.getElem_mem hlt)).text
              have hsum : (9223372036854775807 < (Cp.catL (B.take k2)).size + B[k2].text.size) = False := by
                have : ¬ 9223372036854775807 < (Cp.catL (B.take k2)).size + B[k2].text.size := by omega
                exact eq_false this
              have HS := Lib.hid (show Cp.catL (B.take (k2 + 1)) = Cp.catL (B.take k2) ++ B[k2].text by rw [List.take_succ_eq_append_getElem hlt, catL_snoc])
              clear hsz hsz2
              generalize B[k2].text = tx at *
              generalize Cp.catL (B.take k2) = sx at *
              go_wp2_with fail
              go_roundw
              case rel => exact ⟨k2 + 1, by go_num, by omega, by rw [HS.out], by trivial⟩
              case measure => simp [intOf]; omega
            · have c2 : ¬ (k2 : Int) < (B.length : Int) := by omega
              have hkl : k2 = B.length := by omega
              have HCB := Lib.hid (show Cp.catL (B.take k2) = Cp.catL B by rw [hkl, List.take_length])
              rw [HCB.out]
              clear hkl
              go_wp2_with fail
              go_ret
              exact ⟨rfl, BGV.out⟩
  · have t0 : (toE f B != 0) = true := by rw [bne_iff_ne]; exact hE
    generalize toE f B = E at *
    clear hE
    go_wp2_with fail
    go_ret
    exact ⟨rfl, BG.out⟩
end Go.Proofs.Ytlgpihboojgpmaa
