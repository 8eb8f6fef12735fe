/- Texts of this seat, put together: Hc, Hf. -/
import Derived.Test.YtlfodemmdfaeeaaDoorGH1
import Derived.Test.YtlfodemmdfaeeaaDoorGF6
/- Two made beside each other, carried out: one document, one error. -/
namespace Go.Proofs.YtlfodemmdfaeeaaDoor
open Go.RowKit Rn Ch
open At hiding put
open Cp (atms okA actA OkX kA dA iA)

/-- Of a changeset that fits, the attributes alone tell an error: 3. -/
theorem errA_three {l : List RunD} {f : Int} {ops : List OpD} (hg : FitG l f ops) : errA (metD l ops) = 0 ∨ errA (metD l ops) = 3 := by
  have key : ∀ (os : List OpD) (cs : List CD), (∀ o ∈ os, o.kind = 1 → chgB o.attrs = true) → (∀ x ∈ cs, rgtB x.2 = true) → ∀ y ∈ metC os cs, badA y = 0 ∨ badA y = 3 := by
    intro os
    induction os with
    | nil => intro cs _ _ y hy; cases hy
    | cons o r ih =>
      intro cs ho hc y hy
      have hr : ∀ o ∈ r, o.kind = 1 → chgB o.attrs = true := fun x hx => ho x (List.mem_cons_of_mem _ hx)
      rw [metC] at hy
      split at hy
      · rename_i k
        rcases List.mem_append.1 hy with hy | hy
        · obtain ⟨x, hx, rfl⟩ := List.mem_map.1 hy
          refine .inl ?_
          unfold badA
          rw [if_neg (by show ¬ o.kind = 1; omega)]
        · exact ih cs hr hc y hy
      · rcases List.mem_append.1 hy with hy | hy
        · obtain ⟨x, hx, rfl⟩ := List.mem_map.1 hy
          unfold badA
          by_cases k : o.kind = 1
          · rw [if_pos k]
            have h1 := hc x (List.mem_of_mem_take hx)
            have h2 := ho o List.mem_cons_self k
            show applyE x.2 o.attrs = 0 ∨ applyE x.2 o.attrs = 3
            by_cases h3 : (applyL ltB emp x.2 o.attrs).length ≤ 8
            · exact .inl (applyE_mk h1 h2 h3).1
            · exact .inr (applyE_big h1 h2 h3).1
          · rw [if_neg k]; exact .inl rfl
        · exact ih _ hr (fun x hx => hc x (List.mem_of_mem_drop hx)) y hy
  have all := key (ops ++ [restQ.1]) (cellsD l) (fun o ho k => by
    rcases List.mem_append.1 ho with ho | ho
    · rcases Cp.opE_shape (hg.okc.2.2.2.1 o ho) with ⟨_, _, _, c⟩ | ⟨k2, _⟩ | ⟨k3, _⟩
      · exact c
      · omega
      · omega
    · rw [List.mem_singleton.1 ho]; exact chg_nil) (fun x hx => (hg.doc.cell hx).2)
  have go : ∀ ys : List MD, (∀ y ∈ ys, badA y = 0 ∨ badA y = 3) → errA ys = 0 ∨ errA ys = 3 := by
    intro ys
    induction ys with
    | nil => intro _; exact .inl rfl
    | cons y r ih =>
      intro hy
      rw [errA]
      by_cases h : badA y = 0
      · rw [if_neg (by simpa using h)]; exact ih fun z hz => hy z (List.mem_cons_of_mem _ hz)
      · rw [if_pos h]; exact .inr ((hy y List.mem_cons_self).resolve_left h)
  exact go _ all
/-- Two that do the same to a document answer the same. -/
theorem app_same {l m : List RunD} {f g : Int} {A C : List OpD} (h1 : fitE l f A = 0) (h2 : fitE m g C = 0) (he : act A (cellsD l) = act C (cellsD m)) (ho : actOk A (cellsD l) ↔ actOk C (cellsD m)) : appE l f A = appE m g C ∧ appL l f A = appL m g C := by
  have hg := fitG_of h1
  have hh := fitG_of h2
  obtain ⟨m1, m2⟩ := hg.met
  obtain ⟨n1, n2⟩ := hh.met
  have e1 : errA (metD l A) = errA (metD m C) := by
    rcases errA_three hg with a | a <;> rcases errA_three hh with b | b
    · rw [a, b]
    · exact absurd (n2.2 (ho.1 (m2.1 a))) (by rw [b]; decide)
    · exact absurd (m2.2 (ho.2 (n2.1 b))) (by rw [a]; decide)
    · rw [a, b]
  have e2 : accA (metD l A) = accA (metD m C) := by rw [accA_out, accA_out, m1, n1, he]
  have e3 : appE l f A = appE m g C := by
    unfold appE
    rw [h1, h2, e1, e2]
  exact ⟨e3, by unfold appL; rw [e3, e2]⟩
theorem FolG.fitE {fi : Bool} {l : List RunD} {f g : Int} {A C X : List OpD} (h : appE l f A = 0) (hx : FolG fi f g A C X) : fitE (appL l f A) (toN f A) X = 0 := by
  have ha := appF_of h
  exact fit_iff.2 ⟨ha.right, hx.toE, ha.num.symm⟩
/-- Two made beside each other make one document, whichever comes first. -/
theorem fol_app {fi : Bool} {l : List RunD} {f g : Int} {A C X Y : List OpD} (h1 : appE l f A = 0) (h2 : appE l g C = 0) (hx : FolG fi f g A C X) (hy : FolG (!fi) g f C A Y) :
    appE (appL l f A) (toN f A) X = appE (appL l g C) (toN g C) Y ∧ appL (appL l f A) (toN f A) X = appL (appL l g C) (toN g C) Y := by
  have ha := appF_of h1
  have hb := appF_of h2
  have ga := fitG_of ha.fit
  have gb := fitG_of hb.fit
  obtain ⟨hc, hr⟩ := fitG_row ga
  obtain ⟨x1, x2⟩ := act_nrm ga.okc ga.fc hr
  obtain ⟨y1, y2⟩ := act_nrm gb.okc gb.fc hr
  have oA := Cp.okX_atms hx.F.okA.2.2.2.1
  have oC := Cp.okX_atms hx.F.okB.2.2.2.1
  obtain ⟨a1, a2, a3⟩ := Cp.sums_atms hx.F.okA.2.2.2.1
  obtain ⟨b1, b2, b3⟩ := Cp.sums_atms hx.F.okB.2.2.2.1
  obtain ⟨f0, f1, _, _, fk, ft⟩ := hx.F.okA
  obtain ⟨g0, g1, _, _, gk, gt⟩ := hx.F.okB
  have hfc := ga.fc
  have hkA : kA (atms (norm A)) ≤ (cellsD l).length := by omega
  have hkC : kA (atms (norm C)) ≤ (cellsD l).length := by omega
  obtain ⟨q1, q2⟩ := Cp.actA_fol fi _ _ _ oA oC hkA hkC hc (x2.1 ha.ok) (y2.1 hb.ok)
  obtain ⟨o1, o2, o3, o4⟩ := Cp.fol_all fi (atms (norm A)) (atms (norm C)) f.toNat oC (by omega) (by omega)
  obtain ⟨p1, p2, p3, p4⟩ := Cp.fol_all (!fi) (atms (norm C)) (atms (norm A)) f.toNat oA (by omega) (by omega)
  have lu : ((act A (cellsD l)).length : Int) = f - dl (norm A) + Ch.ins (norm A) := by rw [ha.nn, (folF_of hx.a hx.a).2]
  have lv : ((act C (cellsD l)).length : Int) = g - dl (norm C) + Ch.ins (norm C) := by rw [hb.nn, (folF_of hx.c hx.c).2]
  have hs := hx.same
  have dkA := dA_kA (atms (norm A))
  have dkC := dA_kA (atms (norm C))
  have ru : ∀ x ∈ act A (cellsD l), rgtB x.2 = true := fun x hxx => (ha.cok x hxx).2
  have rv : ∀ x ∈ act C (cellsD l), rgtB x.2 = true := fun x hxx => (hb.cok x hxx).2
  obtain ⟨r1, r2⟩ := act_normA (cs := act A (cellsD l)) o1 (by omega) (by omega) ru
  obtain ⟨s1, s2⟩ := act_normA (cs := act C (cellsD l)) p1 (by omega) (by omega) rv
  refine app_same (hx.fitE h1) (hy.fitE h2) ?_ ?_
  · rw [ha.cells, hb.cells, hx.eq, hy.eq]
    show act (Cp.normA _) _ = act (Cp.normA _) _
    rw [r1, s1, x1, y1]; exact q2
  · rw [ha.cells, hb.cells, hx.eq, hy.eq]
    show actOk (Cp.normA _) _ ↔ actOk (Cp.normA _) _
    rw [r2, s2, x1, y1]; exact q1
end Go.Proofs.YtlfodemmdfaeeaaDoor

/- The law FollowDocuments, walked. -/
namespace Go.Proofs.YtlfodemmdfaeeaaDoor
open Go.RowKit Rn Ch
open At hiding put

/-- Two made beside each other, carried out. -/
structure Docs7 (L1 L2 : List RunD) (F3 F4 : Int) (R3 R4 : List OpD) : Prop where
  s1 : RSized L1
  s2 : RSized L2
  s3 : OSized R3
  s4 : OSized R4
  e : appE L1 F3 R3 = appE L2 F4 R4
  v : appL L1 F3 R3 = appL L2 F4 R4
theorem docs7_of {fi : Bool} {l L1 L2 : List RunD} {f g F3 F4 : Int} {A C R3 R4 : List OpD} (h1 : appE l f A = 0) (k1 : appL l f A = L1) (h2 : appE l g C = 0) (k2 : appL l g C = L2)
    (q3 : (if folE fi f g A C = 0 then toN f A else 0) = F3) (h3 : folE fi f g A C = 0) (k3 : folR fi f g A C = R3) (q4 : (if folE (!fi) g f C A = 0 then toN g C else 0) = F4) (h4 : folE (!fi) g f C A = 0) (k4 : folR (!fi) g f C A = R4) : Docs7 L1 L2 F3 F4 R3 R4 := by
  rw [if_pos h3] at q3
  rw [if_pos h4] at q4
  subst k1 k2 q3 q4 k3 k4
  have gx := fol_ok h3
  have gy := fol_ok h4
  obtain ⟨e1, e2⟩ := fol_app h1 h2 gx gy
  exact ⟨rsized7 h1, rsized7 h2, gx.sized, gy.sized, e1, e2⟩

set_option maxRecDepth 100000 in
set_option maxHeartbeats 8000000 in
theorem fdocs_walk (vd : Value) (l : List RunD) (f : Int) (va : Value) (A : List OpD) (g : Int) (vb : Value) (C : List OpD) (fi : Bool) (w : World) (hvd : HasD w vd l) (hzd : RSized l) (hva : OpRow w va A) (hpa : Proper va) (hza : OSized A) (hvb : OpRow w vb C) (hpb : Proper vb) (hzb : OSized C) (hU : U8s w.heap.size w) :
    Calls Tryd.prog 4 #[vd, chAgg f va, chAgg g vb, .bool fi] w (OutB w true) := by
  obtain ⟨ud, td, rfl⟩ := hvd.shape
  obtain ⟨ua, ta, rfl⟩ := hva.shape
  obtain ⟨ub, tb, rfl⟩ := hvb.shape
  obtain ⟨W, hW, ka, kb, bW⟩ : ∃ W, W = ((w.alloc (.cells #[.int .i64 f, .slice ua A.length ta] 25)).alloc (.cells #[.int .i64 g, .slice ub C.length tb] 25)) ∧ W.heap[w.heap.size]? = some (.cells #[.int .i64 f, .slice ua A.length ta] 25 (0, 0)) ∧ W.heap[w.heap.size + 1]? = some (.cells #[.int .i64 g, .slice ub C.length tb] 25 (0, 0)) ∧ Below w.heap.size w W := ⟨_, rfl, (box2 _ _ _).1, (box2 _ _ _).2.1, (box2 _ _ _).2.2⟩
  have Ra := Lib.hid (hva.below bW)
  have Za := Lib.hid hza
  have Pa := Lib.hid hpa
  have Ha := Lib.hid ka
  have Ja := Lib.hid (Below.refl W.heap.size W)
  have Rb := Lib.hid (hvb.below bW)
  have Zb := Lib.hid hzb
  have Pb := Lib.hid hpb
  have Hb := Lib.hid kb
  have Jb := Lib.hid (Below.refl W.heap.size W)
  have Rd := Lib.hid (hvd.below bW)
  have Zd := Lib.hid hzd
  have Jd := Lib.hid (Below.refl W.heap.size W)
  have HU0 := Lib.hid (hU.up7 bW)
  have J0 := Lib.hid (Below.refl W.heap.size W)
  have BW := Lib.hid bW
  have HW := Lib.hid hW
  clear hva hpa hza ka hvb hpb hzb kb hvd hzd hU bW hW
  go_enter Tryd.func4, Tryd.ntmps4
  go_wp2_with fail
  rw [← HW.out]
  refine (awake7_any _).mono ?_
  rintro e y1 ⟨rfl, d1⟩
  have Ja := Lib.hid (Ja.out.trans (d1.mono Ja.out.size))
  have Jb := Lib.hid (Jb.out.trans (d1.mono Jb.out.size))
  have Jd := Lib.hid (Jd.out.trans (d1.mono Jd.out.size))
  have J0 := Lib.hid (J0.out.trans (d1.mono J0.out.size))
  obtain ⟨c0a, c1a, cla⟩ := box_at (heap_up Ha.out Ja.out)
  obtain ⟨c0b, c1b, clb⟩ := box_at (heap_up Hb.out Jb.out)
  clear d1
  go_wp2_with fail
  obtain ⟨E1, hE1⟩ : ∃ X : Int, appE l f A = X := ⟨_, rfl⟩
  obtain ⟨L1, hL1⟩ : ∃ X : List RunD, appL l f A = X := ⟨_, rfl⟩
  have HLU := Lib.hid (And.intro hE1 (hL1))
  clear hE1 hL1
  obtain ⟨E2, hE2⟩ : ∃ X : Int, appE l g C = X := ⟨_, rfl⟩
  obtain ⟨L2, hL2⟩ : ∃ X : List RunD, appL l g C = X := ⟨_, rfl⟩
  have HLV := Lib.hid (And.intro hE2 (hL2))
  clear hE2 hL2
  obtain ⟨F3, hF3⟩ : ∃ X : Int, (if folE fi f g A C = 0 then toN f A else 0) = X := ⟨_, rfl⟩
  obtain ⟨E3, hE3⟩ : ∃ X : Int, folE fi f g A C = X := ⟨_, rfl⟩
  obtain ⟨R3, hR3⟩ : ∃ X : List OpD, folR fi f g A C = X := ⟨_, rfl⟩
  have HLX := Lib.hid (And.intro hF3 (And.intro hE3 (hR3)))
  clear hF3 hE3 hR3
  obtain ⟨F4, hF4⟩ : ∃ X : Int, (if folE (!fi) g f C A = 0 then toN g C else 0) = X := ⟨_, rfl⟩
  obtain ⟨E4, hE4⟩ : ∃ X : Int, folE (!fi) g f C A = X := ⟨_, rfl⟩
  obtain ⟨R4, hR4⟩ : ∃ X : List OpD, folR (!fi) g f C A = X := ⟨_, rfl⟩
  have HLY := Lib.hid (And.intro hF4 (And.intro hE4 (hR4)))
  clear hF4 hE4 hR4
  refine (appH (Rd.out.below Jd.out) Zd.out (Ra.out.below Ja.out) Pa.out Za.out (HU0.out.up7 J0.out) HLU.out.1 HLU.out.2).mono ?_
  rintro e y2 ⟨a2, n2, rfl, r2, d2⟩
  have Ja := Lib.hid (Ja.out.trans (d2.mono Ja.out.size))
  have Jb := Lib.hid (Jb.out.trans (d2.mono Jb.out.size))
  have Jd := Lib.hid (Jd.out.trans (d2.mono Jd.out.size))
  have J0 := Lib.hid (J0.out.trans (d2.mono J0.out.size))
  clear c0a c1a cla c0b c1b clb
  obtain ⟨c0a, c1a, cla⟩ := box_at (heap_up Ha.out Ja.out)
  obtain ⟨c0b, c1b, clb⟩ := box_at (heap_up Hb.out Jb.out)
  have Ru := Lib.hid r2
  have Ju := Lib.hid (Below.refl y2.heap.size y2)
  clear d2 r2
  go_wp2_with fail
  refine (appH (Rd.out.below Jd.out) Zd.out (Rb.out.below Jb.out) Pb.out Zb.out (HU0.out.up7 J0.out) HLV.out.1 HLV.out.2).mono ?_
  rintro e y3 ⟨a3, n3, rfl, r3, d3⟩
  have Ja := Lib.hid (Ja.out.trans (d3.mono Ja.out.size))
  have Jb := Lib.hid (Jb.out.trans (d3.mono Jb.out.size))
  have Jd := Lib.hid (Jd.out.trans (d3.mono Jd.out.size))
  have Ju := Lib.hid (Ju.out.trans (d3.mono Ju.out.size))
  have J0 := Lib.hid (J0.out.trans (d3.mono J0.out.size))
  clear c0a c1a cla c0b c1b clb
  obtain ⟨c0a, c1a, cla⟩ := box_at (heap_up Ha.out Ja.out)
  obtain ⟨c0b, c1b, clb⟩ := box_at (heap_up Hb.out Jb.out)
  have Rv := Lib.hid r3
  have Jv := Lib.hid (Below.refl y3.heap.size y3)
  clear d3 r3
  go_wp2_with fail
  refine (folH_eq (Ra.out.below Ja.out) Za.out (Rb.out.below Jb.out) Zb.out HLX.out.1 HLX.out.2.1 HLX.out.2.2).mono ?_
  rintro e y4 ⟨a4, n4, rfl, r4, d4⟩
  have Ja := Lib.hid (Ja.out.trans (d4.mono Ja.out.size))
  have Jb := Lib.hid (Jb.out.trans (d4.mono Jb.out.size))
  have Jd := Lib.hid (Jd.out.trans (d4.mono Jd.out.size))
  have Ju := Lib.hid (Ju.out.trans (d4.mono Ju.out.size))
  have Jv := Lib.hid (Jv.out.trans (d4.mono Jv.out.size))
  have J0 := Lib.hid (J0.out.trans (d4.mono J0.out.size))
  clear c0a c1a cla c0b c1b clb
  obtain ⟨c0a, c1a, cla⟩ := box_at (heap_up Ha.out Ja.out)
  obtain ⟨c0b, c1b, clb⟩ := box_at (heap_up Hb.out Jb.out)
  obtain ⟨Xx, hX, x, bX⟩ : ∃ X, X = y4.alloc (.cells #[.int .i64 (F3), .slice a4 (R3).length n4] 25) ∧ X.heap[y4.heap.size]? = some (.cells #[.int .i64 (F3), .slice a4 (R3).length n4] 25 (0, 0)) ∧ Below y4.heap.size y4 X := ⟨_, rfl, heap_new _ _, below_box _ _⟩
  have Ex := Lib.hid hX
  have Hx := Lib.hid x
  have Px := Lib.hid (proper_ops7 r4)
  have Rx := Lib.hid (show OpRow Xx (.slice a4 (R3).length n4) (R3) from r4.row.below bX)
  have Ja := Lib.hid (Ja.out.trans (bX.mono Ja.out.size))
  have Jb := Lib.hid (Jb.out.trans (bX.mono Jb.out.size))
  have Jd := Lib.hid (Jd.out.trans (bX.mono Jd.out.size))
  have Ju := Lib.hid (Ju.out.trans (bX.mono Ju.out.size))
  have Jv := Lib.hid (Jv.out.trans (bX.mono Jv.out.size))
  have J0 := Lib.hid (J0.out.trans (bX.mono J0.out.size))
  have Jx := Lib.hid (Below.refl Xx.heap.size Xx)
  clear d4 hX x bX r4
  go_wp2_with fail
  rw [← Ex.out]
  refine (folH_eq (Rb.out.below Jb.out) Zb.out (Ra.out.below Ja.out) Za.out HLY.out.1 HLY.out.2.1 HLY.out.2.2).mono ?_
  rintro e y5 ⟨a5, n5, rfl, r5, d5⟩
  have Ja := Lib.hid (Ja.out.trans (d5.mono Ja.out.size))
  have Jb := Lib.hid (Jb.out.trans (d5.mono Jb.out.size))
  have Jx := Lib.hid (Jx.out.trans (d5.mono Jx.out.size))
  have Jd := Lib.hid (Jd.out.trans (d5.mono Jd.out.size))
  have Ju := Lib.hid (Ju.out.trans (d5.mono Ju.out.size))
  have Jv := Lib.hid (Jv.out.trans (d5.mono Jv.out.size))
  have J0 := Lib.hid (J0.out.trans (d5.mono J0.out.size))
  clear c0a c1a cla c0b c1b clb
  obtain ⟨c0a, c1a, cla⟩ := box_at (heap_up Ha.out Ja.out)
  obtain ⟨c0b, c1b, clb⟩ := box_at (heap_up Hb.out Jb.out)
  obtain ⟨c0x, c1x, clx⟩ := box_at (heap_up Hx.out Jx.out)
  obtain ⟨Xy, hX, x, bX⟩ : ∃ X, X = y5.alloc (.cells #[.int .i64 (F4), .slice a5 (R4).length n5] 25) ∧ X.heap[y5.heap.size]? = some (.cells #[.int .i64 (F4), .slice a5 (R4).length n5] 25 (0, 0)) ∧ Below y5.heap.size y5 X := ⟨_, rfl, heap_new _ _, below_box _ _⟩
  have Ey := Lib.hid hX
  have Hy := Lib.hid x
  have Py := Lib.hid (proper_ops7 r5)
  have Ry := Lib.hid (show OpRow Xy (.slice a5 (R4).length n5) (R4) from r5.row.below bX)
  have Ja := Lib.hid (Ja.out.trans (bX.mono Ja.out.size))
  have Jb := Lib.hid (Jb.out.trans (bX.mono Jb.out.size))
  have Jx := Lib.hid (Jx.out.trans (bX.mono Jx.out.size))
  have Jd := Lib.hid (Jd.out.trans (bX.mono Jd.out.size))
  have Ju := Lib.hid (Ju.out.trans (bX.mono Ju.out.size))
  have Jv := Lib.hid (Jv.out.trans (bX.mono Jv.out.size))
  have J0 := Lib.hid (J0.out.trans (bX.mono J0.out.size))
  have Jy := Lib.hid (Below.refl Xy.heap.size Xy)
  clear d5 hX x bX r5
  by_cases e1 : E1 = 0
  · skip
    by_cases e2 : E2 = 0
    · skip
      by_cases e3 : E3 = 0
      · skip
        by_cases e4 : E4 = 0
        · skip
          have HD := docs7_of (HLU.out.1.trans e1) HLU.out.2 (HLV.out.1.trans e2) HLV.out.2 HLX.out.1 (HLX.out.2.1.trans e3) HLX.out.2.2 HLY.out.1 (HLY.out.2.1.trans e4) HLY.out.2.2
          subst e1
          subst e2
          subst e3
          subst e4
          have HD := Lib.hid HD
          obtain ⟨E5, hE5⟩ : ∃ X : Int, appE L1 F3 R3 = X := ⟨_, rfl⟩
          obtain ⟨L5, hL5⟩ : ∃ X : List RunD, appL L1 F3 R3 = X := ⟨_, rfl⟩
          have HLP := Lib.hid (And.intro hE5 (hL5))
          clear hE5 hL5
          go_wp2_with fail
          rw [← Ey.out]
          refine (appH (Ru.out.below Ju.out) HD.out.s1 (Rx.out.below Jx.out) Px.out HD.out.s3 (HU0.out.up7 J0.out) HLP.out.1 HLP.out.2).mono ?_
          rintro e y6 ⟨a6, n6, rfl, r6, d6⟩
          have Ja := Lib.hid (Ja.out.trans (d6.mono Ja.out.size))
          have Jb := Lib.hid (Jb.out.trans (d6.mono Jb.out.size))
          have Jx := Lib.hid (Jx.out.trans (d6.mono Jx.out.size))
          have Jy := Lib.hid (Jy.out.trans (d6.mono Jy.out.size))
          have Jd := Lib.hid (Jd.out.trans (d6.mono Jd.out.size))
          have Ju := Lib.hid (Ju.out.trans (d6.mono Ju.out.size))
          have Jv := Lib.hid (Jv.out.trans (d6.mono Jv.out.size))
          have J0 := Lib.hid (J0.out.trans (d6.mono J0.out.size))
          clear c0a c1a cla c0b c1b clb c0x c1x clx
          obtain ⟨c0a, c1a, cla⟩ := box_at (heap_up Ha.out Ja.out)
          obtain ⟨c0b, c1b, clb⟩ := box_at (heap_up Hb.out Jb.out)
          obtain ⟨c0x, c1x, clx⟩ := box_at (heap_up Hx.out Jx.out)
          obtain ⟨c0y, c1y, cly⟩ := box_at (heap_up Hy.out Jy.out)
          have Rp := Lib.hid r6
          have Jp := Lib.hid (Below.refl y6.heap.size y6)
          clear d6 r6
          go_wp2_with fail
          refine (appH (Rv.out.below Jv.out) HD.out.s2 (Ry.out.below Jy.out) Py.out HD.out.s4 (HU0.out.up7 J0.out) (HD.out.e.symm.trans HLP.out.1) (HD.out.v.symm.trans HLP.out.2)).mono ?_
          rintro e y7 ⟨a7, n7, rfl, r7, d7⟩
          have Ja := Lib.hid (Ja.out.trans (d7.mono Ja.out.size))
          have Jb := Lib.hid (Jb.out.trans (d7.mono Jb.out.size))
          have Jx := Lib.hid (Jx.out.trans (d7.mono Jx.out.size))
          have Jy := Lib.hid (Jy.out.trans (d7.mono Jy.out.size))
          have Jd := Lib.hid (Jd.out.trans (d7.mono Jd.out.size))
          have Ju := Lib.hid (Ju.out.trans (d7.mono Ju.out.size))
          have Jv := Lib.hid (Jv.out.trans (d7.mono Jv.out.size))
          have Jp := Lib.hid (Jp.out.trans (d7.mono Jp.out.size))
          have J0 := Lib.hid (J0.out.trans (d7.mono J0.out.size))
          clear c0a c1a cla c0b c1b clb c0x c1x clx c0y c1y cly
          obtain ⟨c0a, c1a, cla⟩ := box_at (heap_up Ha.out Ja.out)
          obtain ⟨c0b, c1b, clb⟩ := box_at (heap_up Hb.out Jb.out)
          obtain ⟨c0x, c1x, clx⟩ := box_at (heap_up Hx.out Jx.out)
          obtain ⟨c0y, c1y, cly⟩ := box_at (heap_up Hy.out Jy.out)
          have Rq := Lib.hid r7
          have Jq := Lib.hid (Below.refl y7.heap.size y7)
          clear d7 r7
          by_cases e5 : E5 = 0
          · subst e5
            go_wp2_with fail
            refine (sameD (Rp.out.below Jp.out) (Rq.out.below Jq.out)).mono ?_
            rintro e y8 ⟨rfl, d8⟩
            have Ja := Lib.hid (Ja.out.trans (d8.mono Ja.out.size))
            have Jb := Lib.hid (Jb.out.trans (d8.mono Jb.out.size))
            have Jx := Lib.hid (Jx.out.trans (d8.mono Jx.out.size))
            have Jy := Lib.hid (Jy.out.trans (d8.mono Jy.out.size))
            have Jd := Lib.hid (Jd.out.trans (d8.mono Jd.out.size))
            have Ju := Lib.hid (Ju.out.trans (d8.mono Ju.out.size))
            have Jv := Lib.hid (Jv.out.trans (d8.mono Jv.out.size))
            have Jp := Lib.hid (Jp.out.trans (d8.mono Jp.out.size))
            have Jq := Lib.hid (Jq.out.trans (d8.mono Jq.out.size))
            have J0 := Lib.hid (J0.out.trans (d8.mono J0.out.size))
            clear c0a c1a cla c0b c1b clb c0x c1x clx c0y c1y cly
            obtain ⟨c0a, c1a, cla⟩ := box_at (heap_up Ha.out Ja.out)
            obtain ⟨c0b, c1b, clb⟩ := box_at (heap_up Hb.out Jb.out)
            obtain ⟨c0x, c1x, clx⟩ := box_at (heap_up Hx.out Jx.out)
            obtain ⟨c0y, c1y, cly⟩ := box_at (heap_up Hy.out Jy.out)
            clear d8
            have BF := BW.out.trans (J0.out.mono BW.out.size)
            have BG := Lib.hid BF
            clear BF
            go_wp2_with fail
            go_ret
            exact ⟨rfl, BG.out⟩
          · have t5 : (E5 == 0) = false := not_int e5
            have t6 : (E5 != 0) = true := by rw [bne_iff_ne]; assumption
            have BF := BW.out.trans (J0.out.mono BW.out.size)
            have BG := Lib.hid BF
            clear BF
            go_wp2_with fail
            go_ret
            exact ⟨rfl, BG.out⟩
        · have t4 : (E4 != 0) = true := by rw [bne_iff_ne]; assumption
          subst e1
          subst e2
          subst e3
          have BF := BW.out.trans (J0.out.mono BW.out.size)
          have BG := Lib.hid BF
          clear BF
          go_wp2_with fail
          go_ret
          exact ⟨rfl, by rw [← Ey.out]; exact BG.out⟩
      · have t3 : (E3 != 0) = true := by rw [bne_iff_ne]; assumption
        subst e1
        subst e2
        have BF := BW.out.trans (J0.out.mono BW.out.size)
        have BG := Lib.hid BF
        clear BF
        go_wp2_with fail
        go_ret
        exact ⟨rfl, by rw [← Ey.out]; exact BG.out⟩
    · have t2 : (E2 != 0) = true := by rw [bne_iff_ne]; assumption
      subst e1
      have BF := BW.out.trans (J0.out.mono BW.out.size)
      have BG := Lib.hid BF
      clear BF
      go_wp2_with fail
      go_ret
      exact ⟨rfl, by rw [← Ey.out]; exact BG.out⟩
  · have t1 : (E1 != 0) = true := by rw [bne_iff_ne]; assumption
    have BF := BW.out.trans (J0.out.mono BW.out.size)
    have BG := Lib.hid BF
    clear BF
    go_wp2_with fail
    go_ret
    exact ⟨rfl, by rw [← Ey.out]; exact BG.out⟩
theorem fdocs_walk7 (v : Value) (ps : List RP) (f : Int) (ov : Value) (ops : List OpD) (g : Int) (pv : Value) (qs : List OpD) (fi : Bool) (w : World) (hv : RunRow w v ps) (hz : RSized (ps.map (·.1))) (hc : OpRow w ov ops) (hpr : Proper ov) (hy : OSized ops) (hc2 : OpRow w pv qs) (hpr2 : Proper pv) (hy2 : OSized qs) (hU : U8s w.heap.size w) :
    Calls Tryd.prog 4 #[v, chAgg f ov, chAgg g pv, .bool fi] w (OutB w true) := fdocs_walk v _ f ov ops g pv qs fi w ⟨ps, rfl, hv⟩ hz hc hpr hy hc2 hpr2 hy2 hU
end Go.Proofs.YtlfodemmdfaeeaaDoor
