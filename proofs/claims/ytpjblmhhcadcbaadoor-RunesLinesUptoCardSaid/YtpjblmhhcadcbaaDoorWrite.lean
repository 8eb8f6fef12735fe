/- The document's own writing of a row of runes as a text. -/
import Derived.Test.YtpjblmhhcadcbaaDoorRead
import Derived.Test.YtpjblmhhcadcbaaDoorBehind
namespace Go.Proofs.YtpjblmhhcadcbaaDoor
open Go.RowKit Rn

theorem infoByte : (Tryd.prog.info? 5).map (fun i => (i.zero, i.size, i.bytes)) = some (some (.int .u8 0), 1, 1) := by kernel_rfl
theorem txt_take_succ (cs : List Nat) (k : Nat) (hk : k < cs.length) : txt (cs.take (k + 1)) = txt (cs.take k) ++ enc (cs.getD k 0) := by
  rw [List.take_succ_eq_append_getElem hk, txt_append, List.getD_eq_getElem?_getD, List.getElem?_eq_getElem hk]
  simp [txt]

theorem u8_of (n : Nat) (h : n < 256) : Value.int .u8 ((UInt8.ofNat n).toNat : Int) = .int .u8 (n : Int) := by
  rw [UInt8.toNat_ofNat', Nat.mod_eq_of_lt h]
theorem enc1 (c : Nat) (h : c < 128) : Lib.byteCells (enc c) = [.int .u8 (c : Int)] := by
  unfold enc Lib.byteCells
  rw [if_pos h]
  simp only [List.map_cons, List.map_nil]
  rw [u8_of _ (by omega)]
theorem enc2 (c : Nat) (h0 : ¬ c < 128) (h : c < 2048) : Lib.byteCells (enc c) = [.int .u8 (192 + (c : Int) / 64), .int .u8 (128 + (c : Int) % 64)] := by
  unfold enc Lib.byteCells
  rw [if_neg h0, if_pos h]
  simp only [List.map_cons, List.map_nil]
  rw [u8_of _ (by omega), u8_of _ (by omega), int_eq (show ((192 + c / 64 : Nat) : Int) = 192 + (c : Int) / 64 by omega), int_eq (show ((128 + c % 64 : Nat) : Int) = 128 + (c : Int) % 64 by omega)]
theorem enc3 (c : Nat) (h0 : ¬ c < 2048) (h : c < 65536) : Lib.byteCells (enc c) = [.int .u8 (224 + (c : Int) / 4096), .int .u8 (128 + (c : Int) / 64 % 64), .int .u8 (128 + (c : Int) % 64)] := by
  unfold enc Lib.byteCells
  rw [if_neg (by omega), if_neg h0, if_pos h]
  simp only [List.map_cons, List.map_nil]
  rw [u8_of _ (by omega), u8_of _ (by omega), u8_of _ (by omega), int_eq (show ((224 + c / 4096 : Nat) : Int) = 224 + (c : Int) / 4096 by omega), int_eq (show ((128 + c / 64 % 64 : Nat) : Int) = 128 + (c : Int) / 64 % 64 by omega), int_eq (show ((128 + c % 64 : Nat) : Int) = 128 + (c : Int) % 64 by omega)]
theorem enc4 (c : Nat) (h0 : ¬ c < 65536) (h : c ≤ 1114111) : Lib.byteCells (enc c) = [.int .u8 (240 + (c : Int) / 262144), .int .u8 (128 + (c : Int) / 4096 % 64), .int .u8 (128 + (c : Int) / 64 % 64), .int .u8 (128 + (c : Int) % 64)] := by
  unfold enc Lib.byteCells
  rw [if_neg (by omega), if_neg (by omega), if_neg h0]
  simp only [List.map_cons, List.map_nil]
  rw [u8_of _ (by omega), u8_of _ (by omega), u8_of _ (by omega), u8_of _ (by omega), int_eq (show ((240 + c / 262144 : Nat) : Int) = 240 + (c : Int) / 262144 by omega), int_eq (show ((128 + c / 4096 % 64 : Nat) : Int) = 128 + (c : Int) / 4096 % 64 by omega), int_eq (show ((128 + c / 64 % 64 : Nat) : Int) = 128 + (c : Int) / 64 % 64 by omega), int_eq (show ((128 + c % 64 : Nat) : Int) = 128 + (c : Int) % 64 by omega)]
theorem new_at (w : World) (l : List Value) (t : TypeId) (j : Nat) (u : Value) (h : l[j]? = some u) : (w.alloc (.cells l.toArray t)).cell? ((⟨w.heap.size, 0, none⟩ : Addr).add j) = some u := by
  have e : ((⟨w.heap.size, 0, none⟩ : Addr).add j) = ⟨w.heap.size, j, none⟩ := by
    cases j <;> simp [Addr.add]
  rw [e, World.cell?_alloc_at _ _ _ _ rfl]
  simpa using h
/-- What a round leaves. -/
theorem write_step {w wr w1 : World} {cs : List Nat} {k c : Nat} {v v' : Value} {o : Obj} {vals : List Value} (hk : k < cs.length) (hc : c = cs.getD k 0) (hown : wr.ownsRow w.heap.size 5 1 v (txt (cs.take k)).length (Lib.byteCells (txt (cs.take k)))) (hbw : Below w.heap.size w wr)
    (he : Lib.byteCells (enc c) = vals) (ho : w1.ownsRow w.heap.size 5 1 v' ((txt (cs.take k)).length + vals.length) (Lib.byteCells (txt (cs.take k)) ++ vals)) (hg : (wr.alloc o).grownBy w1 v.ownBlock) :
    w1.ownsRow w.heap.size 5 1 v' (txt (cs.take (k + 1))).length (Lib.byteCells (txt (cs.take (k + 1)))) ∧ Below w.heap.size w w1 := by
  refine ⟨?_, (hbw.alloc hbw.size _).grown hg (by have := hbw.size; simp; omega) (fun j hj => (hown.lt j hj).1)⟩
  rw [txt_take_succ cs k hk, Lib.byteCells_append, ← hc, he, List.length_append]
  have : (enc c).length = vals.length := by rw [← he]; simp [Lib.byteCells]
  rw [this]
  exact ho

set_option maxRecDepth 100000 in
set_option maxHeartbeats 4000000 in
theorem write_any (cs : List Nat) (v : Value) (w : World) (h : Holds .i64 w v cs) (hok : allOk cs) (hl : cs.length ≤ 1048576) :
    Calls Tryd.prog 28 #[v] w fun e w' => e = .returned (.string (T cs)) ∧ Below w.heap.size w w' := by
  obtain ⟨a, cap, rfl, hcap, hcell⟩ := h
  have Hcell := Lib.hid hcell
  clear hcell
  go_enter Tryd.func28, Tryd.ntmps28
  go_wp2_with fail
  go_loopg [3, 4] cs.length (fun gk v i wr => ∃ k : Nat, cs.length ≤ gk + k ∧ i = .int .i64 (k : Int) ∧ k ≤ cs.length ∧ wr.ownsRow w.heap.size 5 1 v (txt (cs.take k)).length (Lib.byteCells (txt (cs.take k))) ∧ Below w.heap.size w wr)
  case atStart => exact ⟨0, by omega, rfl, Nat.zero_le _, World.ownsRow_nil _ _ _ _, Below.refl _ _⟩
  case round =>
    obtain ⟨k, hgk, rfl, hk, hown, hbw⟩ := hrel
    by_cases hlt : k < cs.length
    · obtain ⟨b, off, rfl, hb, hx⟩ := Hcell.out k hlt
      have hx' : wr.cell? ⟨b, off + k, none⟩ = some (.int .i64 (cs.getD k 0 : Nat)) := by rw [hbw.cell (by exact hb)]; exact hx
      have hlt' : (k : Int) < (cs.length : Int) := by omega
      have hokc : ok (cs.getD k 0) := hok _ (by rw [List.getD_eq_getElem?_getD, List.getElem?_eq_getElem hlt]; exact List.getElem_mem hlt)
      obtain ⟨c, hc⟩ : ∃ c, c = cs.getD k 0 := ⟨_, rfl⟩
      rw [← hc] at hx' hokc
      have Hc := Lib.hid hc
      clear hc hx
      have Hok := Lib.hid hokc
      have hcb0 : c ≤ 1114111 := by unfold ok at hokc; omega
      have Hcb := Lib.hid hcb0
      have hcb : c ≤ 1114111 := by omega
      clear hcb0
      clear hokc
      have Hown := Lib.hid hown
      clear hown
      obtain ⟨i0, hi, hz0, hz1, hz2⟩ := info_parts infoByte
      have hown := Hown.out
      have hlen : (txt (cs.take k)).length ≤ 4194304 := by have := (txt_len (cs.take k)).2; rw [List.length_take] at this; omega
      by_cases h1 : c < 128
      · have h1' : (c : Int) < 128 := by omega
        have H1 := Lib.hid h1; clear h1
        go_wp2_with (first | (at_builtin; refine wpList_append_own _ rfl _ _ 48 rfl w.heap.size 5 i0 (.int .u8 0) 1 1 Tryd.underlying48 hi hz0 hz1 hz2 rfl (by decide) _ _ _ rfl (hown.alloc _) ⟨wr.heap.size, 0, none⟩ 1 1 [.int .u8 (c : Int)] rfl rfl ?_ ?_ ?_ ?_ ?_ ?_))
        all_goals
          first
            | rfl
            | (intro u hu; simp at hu; rcases hu with rfl | rfl | rfl | rfl <;> rfl)
            | (intro u hu; simp at hu; rcases hu with rfl | rfl | rfl <;> rfl)
            | (intro u hu; simp at hu; rcases hu with rfl | rfl <;> rfl)
            | (intro u hu; simp at hu; subst hu; rfl)
            | (unfold maxLen; omega)
            | omega
            | (have := hbw.size; simp; omega)
            | exact fun j u hj => new_at _ _ _ j u hj
            | (intro v' w1 hown' hgrow _
               clear hown hi hz0 hz1 hz2
               have hst := Lib.hid (write_step hlt Hc.out Hown.out hbw (enc1 c H1.out) hown' hgrow)
               clear hown' hgrow
               go_wp2_with fail
               go_roundg (gk - 1)
               case measure => omega
               case rel => exact ⟨k + 1, by omega, by go_num, by omega, hst.out.1, hst.out.2⟩)
      · have h1' : decide ((c : Int) < 128) = false := by simp; omega
        have H1 := Lib.hid h1; clear h1
        by_cases h2 : c < 2048
        · have h2' : decide ((c : Int) < 2048) = true := by simp; omega
          have h3' : c ≤ 2047 := by omega
          have H2 := Lib.hid h2; clear h2
          go_wp2_with (first | (at_builtin; refine wpList_append_own _ rfl _ _ 48 rfl w.heap.size 5 i0 (.int .u8 0) 1 1 Tryd.underlying48 hi hz0 hz1 hz2 rfl (by decide) _ _ _ rfl (hown.alloc _) ⟨wr.heap.size, 0, none⟩ 2 2 [.int .u8 (192 + (c : Int) / 64), .int .u8 (128 + (c : Int) % 64)] rfl rfl ?_ ?_ ?_ ?_ ?_ ?_))
          all_goals
            first
              | rfl
              | (intro u hu; simp at hu; rcases hu with rfl | rfl | rfl | rfl <;> rfl)
              | (intro u hu; simp at hu; rcases hu with rfl | rfl | rfl <;> rfl)
              | (intro u hu; simp at hu; rcases hu with rfl | rfl <;> rfl)
              | (intro u hu; simp at hu; subst hu; rfl)
              | (unfold maxLen; omega)
              | omega
              | (have := hbw.size; simp; omega)
              | exact fun j u hj => new_at _ _ _ j u hj
              | (intro v' w1 hown' hgrow _
                 clear hown hi hz0 hz1 hz2
                 have hst := Lib.hid (write_step hlt Hc.out Hown.out hbw (enc2 c H1.out H2.out) hown' hgrow)
                 clear hown' hgrow
                 go_wp2_with fail
                 go_roundg (gk - 1)
                 case measure => omega
                 case rel => exact ⟨k + 1, by omega, by go_num, by omega, hst.out.1, hst.out.2⟩)
        · have h2' : decide ((c : Int) < 2048) = false := by simp; omega
          have H2 := Lib.hid h2; clear h2
          by_cases h3 : c < 65536
          · have h3' : decide ((c : Int) < 65536) = true := by simp; omega
            have h4' : c ≤ 65535 := by omega
            have H3 := Lib.hid h3; clear h3
            go_wp2_with (first | (at_builtin; refine wpList_append_own _ rfl _ _ 48 rfl w.heap.size 5 i0 (.int .u8 0) 1 1 Tryd.underlying48 hi hz0 hz1 hz2 rfl (by decide) _ _ _ rfl (hown.alloc _) ⟨wr.heap.size, 0, none⟩ 3 3 [.int .u8 (224 + (c : Int) / 4096), .int .u8 (128 + (c : Int) / 64 % 64), .int .u8 (128 + (c : Int) % 64)] rfl rfl ?_ ?_ ?_ ?_ ?_ ?_))
            all_goals
              first
                | rfl
                | (intro u hu; simp at hu; rcases hu with rfl | rfl | rfl | rfl <;> rfl)
                | (intro u hu; simp at hu; rcases hu with rfl | rfl | rfl <;> rfl)
                | (intro u hu; simp at hu; rcases hu with rfl | rfl <;> rfl)
                | (intro u hu; simp at hu; subst hu; rfl)
                | (unfold maxLen; omega)
                | omega
                | (have := hbw.size; simp; omega)
                | exact fun j u hj => new_at _ _ _ j u hj
                | (intro v' w1 hown' hgrow _
                   clear hown hi hz0 hz1 hz2
                   have hst := Lib.hid (write_step hlt Hc.out Hown.out hbw (enc3 c H2.out H3.out) hown' hgrow)
                   clear hown' hgrow
                   go_wp2_with fail
                   go_roundg (gk - 1)
                   case measure => omega
                   case rel => exact ⟨k + 1, by omega, by go_num, by omega, hst.out.1, hst.out.2⟩)
          · have h3' : decide ((c : Int) < 65536) = false := by simp; omega
            have H3 := Lib.hid h3; clear h3
            go_wp2_with (first | (at_builtin; refine wpList_append_own _ rfl _ _ 48 rfl w.heap.size 5 i0 (.int .u8 0) 1 1 Tryd.underlying48 hi hz0 hz1 hz2 rfl (by decide) _ _ _ rfl (hown.alloc _) ⟨wr.heap.size, 0, none⟩ 4 4 [.int .u8 (240 + (c : Int) / 262144), .int .u8 (128 + (c : Int) / 4096 % 64), .int .u8 (128 + (c : Int) / 64 % 64), .int .u8 (128 + (c : Int) % 64)] rfl rfl ?_ ?_ ?_ ?_ ?_ ?_))
            all_goals
              first
                | rfl
                | (intro u hu; simp at hu; rcases hu with rfl | rfl | rfl | rfl <;> rfl)
                | (intro u hu; simp at hu; rcases hu with rfl | rfl | rfl <;> rfl)
                | (intro u hu; simp at hu; rcases hu with rfl | rfl <;> rfl)
                | (intro u hu; simp at hu; subst hu; rfl)
                | (unfold maxLen; omega)
                | omega
                | (have := hbw.size; simp; omega)
                | exact fun j u hj => new_at _ _ _ j u hj
                | (intro v' w1 hown' hgrow _
                   clear hown hi hz0 hz1 hz2
                   have hst := Lib.hid (write_step hlt Hc.out Hown.out hbw (enc4 c H3.out Hcb.out) hown' hgrow)
                   clear hown' hgrow
                   go_wp2_with fail
                   go_roundg (gk - 1)
                   case measure => omega
                   case rel => exact ⟨k + 1, by omega, by go_num, by omega, hst.out.1, hst.out.2⟩)
    · have hkn : k = cs.length := by omega
      subst hkn
      rw [List.take_length] at hown
      have hnil : ∀ wx, (convert 48 9 (.slice none 0 0)).run Tryd.prog wx = .ok (.string ⟨#[]⟩) wx := fun _ => by kernel_rfl
      rcases hown.2 with ⟨rfl, h0⟩ | ⟨g, cap', cur, rfl, _⟩
      · have hT : T cs = ⟨#[]⟩ := by
          unfold T
          rw [List.eq_nil_of_length_eq_zero h0]
        have HT := Lib.hid hT
        clear hT hown h0
        go_wp2_with fail
        go_ret
        exact ⟨by rw [HT.out]; rfl, hbw⟩
      · have hcv := fun wx => run_convert_bytes_back (P := Tryd.prog) wx 48 9 5 ⟨g, 0, none⟩ cap' (txt cs) Tryd.underlying48 Tryd.underlying5 Tryd.underlying9
        have hcv2 := hcv wr (fun j hj => hown.cells rfl j _ (by simp [Lib.byteCells, hj]))
        clear hcv hown hnil
        go_wp2_with fail
        go_ret
        exact ⟨rfl, hbw⟩
end Go.Proofs.YtpjblmhhcadcbaaDoor
