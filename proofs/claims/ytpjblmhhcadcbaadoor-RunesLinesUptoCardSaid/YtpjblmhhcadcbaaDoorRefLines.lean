/- The document's own Lines. -/
import Derived.Test.YtpjblmhhcadcbaaDoorRefCut
import Derived.Test.YtpjblmhhcadcbaaDoorLines
import Derived.Laws.OwnMore
namespace Go.Proofs.YtpjblmhhcadcbaaDoor
open Go.RowKit Rn

theorem infoStr : (Tryd.prog.info? 9).map (fun i => (i.zero, i.size, i.bytes)) = some (some (.string ⟨#[]⟩), 1, 16) := by kernel_rfl
def strs (l : List (List UInt8)) : List Value := l.map fun x => Value.string ⟨x.toArray⟩
theorem strs_len (l : List (List UInt8)) : (strs l).length = l.length := by simp [strs]
theorem strs_app (a b : List (List UInt8)) : strs (a ++ b) = strs a ++ strs b := by simp [strs]
theorem strs_lnsB (l : List UInt8) : strs (lns l) = (lnsB l).map Value.string := by simp [strs, lnsB]
theorem strs_set (done : List (List UInt8)) (x acc : List UInt8) : (strs (done ++ [x])).set done.length (.string ⟨acc.toArray⟩) = strs (done ++ [acc]) := by
  rw [strs_app, strs_app, List.set_append_right _ _ (by rw [strs_len]; exact Nat.le_refl _), strs_len, Nat.sub_self]; rfl
theorem strs_last (done : List (List UInt8)) (x : List UInt8) : (strs (done ++ [x]))[done.length]? = some (.string ⟨x.toArray⟩) := by
  rw [strs_app, List.getElem?_append_right (by rw [strs_len]; exact Nat.le_refl _), strs_len, Nat.sub_self]; rfl

theorem strs_set' (done : List (List UInt8)) (x : List UInt8) (u : ByteArray) : (strs (done ++ [x])).set done.length (.string u) = strs (done ++ [u.data.toList]) := by
  have := strs_set done x u.data.toList
  simpa using this
theorem extract_eq (s : ByteArray) (f k : Nat) : (s.extract f k).data.toList = (s.data.toList.take k).drop f := by
  simp [ByteArray.data_extract, Array.toList_extract, List.extract_eq_take_drop, List.drop_take]
theorem ownsRow_succ2 {w : World} {base : Nat} {e : TypeId} {v : Value} {n : Nat} {xs : List Value} (h : w.ownsRow base e 1 v (n + 1) xs) : ∃ g cap, v = .slice (some ⟨g, 0, none⟩) (n + 1) cap := by
  rcases h.2 with ⟨_, h⟩ | ⟨g, cap, _, hv, _⟩
  · omega
  · exact ⟨g, cap, hv⟩
theorem setCell_size (w : World) (a : Addr) (u : Value) : (w.setCell a u).heap.size = w.heap.size := by simp [World.setCell]

/-- How far the lines are, k bytes read. -/
def LnAt (l : List UInt8) (k f : Nat) (done : List (List UInt8)) : Prop := f ≤ k ∧ done.length ≤ k ∧ lns l = done ++ lnsA ((l.take k).drop f) (l.drop k)
theorem LnAt.zero (l : List UInt8) : LnAt l 0 0 [] := ⟨Nat.le_refl _, Nat.le_refl _, by simp [lns]⟩
theorem take_drop_succ (l : List UInt8) (k f : Nat) (hk : k < l.length) (hf : f ≤ k) : (l.take (k + 1)).drop f = (l.take k).drop f ++ [l[k]] := by
  rw [List.take_succ_eq_append_getElem hk, List.drop_append_of_le_length (by rw [List.length_take]; omega)]
theorem LnAt.plain {l : List UInt8} {k f : Nat} {done : List (List UInt8)} (h : LnAt l k f done) (hk : k < l.length) (hb : l[k] ≠ 10) : LnAt l (k + 1) f done := by
  obtain ⟨h1, h2, h3⟩ := h
  refine ⟨by omega, by omega, ?_⟩
  rw [h3, List.drop_eq_getElem_cons hk, lnsA, if_neg hb, take_drop_succ l k f hk h1]
theorem LnAt.cut {l : List UInt8} {k f : Nat} {done : List (List UInt8)} (h : LnAt l k f done) (hk : k < l.length) (hb : l[k] = 10) : LnAt l (k + 1) (k + 1) (done ++ [(l.take k).drop f]) := by
  obtain ⟨h1, h2, h3⟩ := h
  refine ⟨by omega, by simp; omega, ?_⟩
  rw [h3, List.drop_eq_getElem_cons hk, lnsA, if_pos hb]
  have : (l.take (k + 1)).drop (k + 1) = [] := List.drop_eq_nil_of_le (by rw [List.length_take]; omega)
  rw [this]; simp
theorem LnAt.last {l : List UInt8} {f : Nat} {done : List (List UInt8)} (h : LnAt l l.length f done) : lns l = done ++ [l.drop f] := by
  obtain ⟨_, _, h3⟩ := h
  rw [h3, List.drop_length, List.take_length]; rfl

set_option maxHeartbeats 400000 in
theorem refLines_no (s : ByteArray) (w : World) (hs : s.size ≤ 1048576) (h : rd s.data.toList = none) :
    Calls Tryd.prog 23 #[.string s] w fun e w' => e = .returned (.tuple #[.slice none 0 0, .int .i64 10]) ∧ Below w.heap.size w w' := by
  go_enter Tryd.func23, Tryd.ntmps23
  go_wp2_with fail
  refine (refRight_no s _ hs h).mono ?_
  rintro e w1 ⟨rfl, hb⟩
  clear h
  go_wp2_with fail
  go_ret2
  exact ⟨rfl, hb⟩

set_option maxHeartbeats 2000000 in
theorem refLines_ok (s : ByteArray) (cs : List Nat) (w : World) (hs : s.size ≤ 1048576) (h : rd s.data.toList = some cs) :
    Calls Tryd.prog 23 #[.string s] w fun e w' => ∃ v, e = .returned (.tuple #[v, .int .i64 0]) ∧ w'.ownsRow w.heap.size 9 1 v (lns s.data.toList).length (strs (lns s.data.toList)) ∧ Below w.heap.size w w' := by
  go_enter Tryd.func23, Tryd.ntmps23
  go_wp2_with fail
  refine (refRight_ok s cs _ hs h).mono ?_
  rintro e w1 ⟨rfl, hb⟩
  clear h
  have s1 := hb.size
  have hlen : s.data.toList.length = s.size := by simp
  have Hlen := Lib.hid hlen
  clear hlen
  go_wp2_with fail
  go_loopg [5, 6, 7] s.size (fun gk v f i wr => ∃ (k ff cap g d : Nat) (done : List (List UInt8)), s.size ≤ gk + k ∧ i = .int .i64 (k : Int) ∧ f = .int .i64 (ff : Int) ∧ k ≤ s.size ∧ d = done.length ∧ LnAt s.data.toList k ff done ∧ v = .slice (some ⟨g, 0, none⟩) ((d + 1 : Nat)) cap ∧ wr.ownsRow w.heap.size 9 1 v (d + 1) (strs (done ++ [[]])) ∧ Below w.heap.size w wr)
  case atStart => exact ⟨0, 0, 1, w1.heap.size, 0, [], by omega, rfl, rfl, Nat.zero_le _, rfl, LnAt.zero _, rfl, World.ownsRow_lit w1 #[.string ⟨#[]⟩] 1 hb.size (by decide) rfl, hb.alloc s1 _⟩
  case round =>
    obtain ⟨k, ff, cap, g, d, done, hgk, rfl, rfl, hk, hd, hln, rfl, hown, hbw⟩ := hrel
    have hf := hln.1
    have hd2 : d ≤ k := by rw [hd]; exact hln.2.1
    have hgl := (hown.lt g rfl)
    have hcell : wr.cell? ⟨g, d, none⟩ = some (.string ⟨#[]⟩) := by rw [hown.cellAt d (by omega), hd]; exact strs_last done []
    have hfr : wr.frozen? ⟨g, d, none⟩ = false := hown.frozenAt d
    have Hown := Lib.hid hown
    have Hln := Lib.hid hln
    have Hd := Lib.hid hd
    clear hown hln hd
    by_cases hlt : k < s.size
    · have hlt' : (k : Int) < (s.size : Int) := by omega
      have hkl : k < s.data.toList.length := by rw [Hlen.out]; exact hlt
      have hsk : s[k] = s.data.toList[k] := rfl
      by_cases h10 : s.data.toList[k] = 10
      · have hc10 : (((s[k]).toNat : Int) == 10) = true := by rw [hsk, h10]; rfl
        have hst := Hown.out.stored d (.string (s.extract ff k))
        have hcut := Hln.out.cut hkl h10
        rw [Hd.out, strs_set', extract_eq] at hst
        rw [← Hd.out] at hst
        have Hst := Lib.hid hst
        have Hcut := Lib.hid hcut
        clear hst hcut hsk h10
        obtain ⟨i0, hi, hz0, hz1, hz2⟩ := info_parts infoStr
        have hown := Hst.out.1
        have hbs : Below w.heap.size w (wr.setCell ⟨g, d, none⟩ (.string (s.extract ff k))) := hbw.setCell hgl.1 _
        go_wp2_with (first | (at_builtin; refine wpList_append_own _ rfl _ _ 34 rfl w.heap.size 9 i0 (.string ⟨#[]⟩) 1 16 Tryd.underlying34 hi hz0 hz1 hz2 rfl (by decide) _ _ _ rfl (hown.alloc _) ⟨wr.heap.size, 0, none⟩ 1 1 [.string ⟨#[]⟩] rfl rfl ?_ ?_ ?_ ?_ ?_ ?_))
        all_goals
          first
            | rfl
            | (intro u hu; simp at hu; subst hu; rfl)
            | (unfold maxLen; omega)
            | omega
            | (have := hbs.size; simp; omega)
            | exact fun j u hj => by rw [← setCell_size wr ⟨g, d, none⟩ (.string (s.extract ff k))]; exact new_at _ _ _ j u hj
            | (intro v' w2 hown' hgrow hnil
               clear hown hi hz0 hz1 hz2 hcell hfr
               have hb2 : Below w.heap.size w w2 := (hbs.alloc hbs.size _).grown hgrow (by have := hbs.size; simp; omega) (fun j hj => by cases hj; exact hgl.1)
               obtain ⟨g2, cap2, rfl⟩ := ownsRow_succ2 hown'
               have Hown' := Lib.hid hown'
               clear hown' hgrow hnil
               go_wp2_with fail
               go_roundg (gk - 1)
               case measure => omega
               case rel => exact ⟨k + 1, k + 1, cap2, g2, d + 1, done ++ [(s.data.toList.take k).drop ff], by omega, by go_num, by go_num, by omega, by rw [List.length_append, ← Hd.out]; rfl, Hcut.out, rfl, by rw [strs_app]; exact Hown'.out, hb2⟩)
      · have hc10 : (((s[k]).toNat : Int) == 10) = false := by
          rw [hsk, beq_eq_false_iff_ne]
          intro h
          apply h10
          apply UInt8.toNat_inj.1
          have : (10 : UInt8).toNat = 10 := rfl
          omega
        have Hpl := Lib.hid (Hln.out.plain hkl h10)
        clear hsk h10
        go_wp2_with fail
        go_roundg (gk - 1)
        case measure => omega
        case rel => exact ⟨k + 1, ff, cap, g, d, done, by omega, by go_num, rfl, by omega, Hd.out, Hpl.out, rfl, Hown.out, hbw⟩
    · have hkn : k = s.size := by omega
      subst hkn
      have hst := Hown.out.stored d (.string (s.extract ff s.size))
      rw [Hd.out, strs_set', extract_eq] at hst
      rw [← Hd.out] at hst
      have Hst := Lib.hid hst
      have Hl := Hln
      rw [← Hlen.out] at Hl
      have hlast := Hl.out.last
      have htk : s.data.toList.take s.size = s.data.toList := by rw [← Hlen.out, List.take_length]
      rw [htk, ← hlast] at hst
      have hdn : d + 1 = (lns s.data.toList).length := by rw [hlast, List.length_append, ← Hd.out]; rfl
      rw [hdn] at hst
      have HS := Lib.hid hst
      have Hdn := Lib.hid hdn
      clear hst hlast Hl Hst htk hdn
      go_wp2_with fail
      go_ret2
      refine ⟨.slice (some ⟨g, 0, none⟩) (lns s.data.toList).length cap, ?_, HS.out.1, hbw.setCell hgl.1 _⟩
      rw [← Hdn.out]
      rfl
end Go.Proofs.YtpjblmhhcadcbaaDoor
