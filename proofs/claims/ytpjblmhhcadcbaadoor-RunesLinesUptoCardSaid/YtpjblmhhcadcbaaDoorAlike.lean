/- runes.ahead: how many runes two rows begin with alike; []rune(s). -/
import Derived.Test.YtpjblmhhcadcbaaDoorSame
namespace Go.Proofs.YtpjblmhhcadcbaaDoor
open Go.RowKit Rn

/-- How many numbers two rows begin with alike. -/
def same (cs ds : List Nat) (i : Nat) : Bool := (((cs.getD i 0 : Nat) : Int) == ((ds.getD i 0 : Nat) : Int))
def pre (cs ds : List Nat) : Nat := lead (same cs ds) (min cs.length ds.length)

theorem two_cells (w : World) (u v : Value) (t1 t2 : TypeId) (m : Nat) :
    ((((w.alloc (.cells #[u] t1)).alloc (.cells #[v] t2)).drewN m).cell? ⟨w.heap.size, 0, none⟩ = some u) ∧ ((((w.alloc (.cells #[u] t1)).alloc (.cells #[v] t2)).drewN m).cell? ⟨w.heap.size + 1, 0, none⟩ = some v) ∧
    ∀ b o, b < w.heap.size → (((w.alloc (.cells #[u] t1)).alloc (.cells #[v] t2)).drewN m).cell? ⟨b, o, none⟩ = w.cell? ⟨b, o, none⟩ := by
  refine ⟨?_, ?_, fun b o hb => ?_⟩
  · show ((w.alloc (.cells #[u] t1)).alloc (.cells #[v] t2)).cell? ⟨w.heap.size, 0, none⟩ = some u
    rw [World.cell?_alloc_past _ _ _ (by simp), World.cell?_alloc_at _ _ _ _ rfl]; rfl
  · show ((w.alloc (.cells #[u] t1)).alloc (.cells #[v] t2)).cell? ⟨w.heap.size + 1, 0, none⟩ = some v
    rw [World.cell?_alloc_at _ _ _ _ (by simp)]; rfl
  · show ((w.alloc (.cells #[u] t1)).alloc (.cells #[v] t2)).cell? ⟨b, o, none⟩ = w.cell? ⟨b, o, none⟩
    rw [World.cell?_alloc_old _ _ _ (by simp; omega), World.cell?_alloc_old _ _ _ (by simp; omega)]

set_option maxHeartbeats 400000 in
theorem ahead_any (cs ds : List Nat) (v1 v2 : Value) (w : World) (h1 : Holds .i32 w v1 cs) (h2 : Holds .i32 w v2 ds) (hn1 : cs.length ≤ 20000) (hn2 : ds.length ≤ 20000) :
    Calls Tryd.prog 32 #[v1, v2] w fun e w' => e = .returned (.int .i64 (pre cs ds : Nat)) ∧ ∃ m, w' = ((w.alloc (.cells #[v1] 57)).alloc (.cells #[v2] 57)).drewN m := by
  obtain ⟨a1, c1, rfl, _, h1⟩ := h1
  obtain ⟨a2, c2, rfl, _, h2⟩ := h2
  have H1 := Lib.hid h1; have H2 := Lib.hid h2; clear h1 h2
  go_enter Tryd.func32, Tryd.ntmps32
  go_wp2_with fail
  rw [show min (cs.length : Int) (ds.length : Int) = ((min cs.length ds.length : Nat) : Int) from by omega]
  refine (alike_ahead (min cs.length ds.length) _ _ (same cs ds) _ (by omega) (Lib.hid fun i hi m => ?_)).mono ?_
  · obtain ⟨b1, o1, rfl, hb1, hx⟩ := H1.out i (by omega)
    obtain ⟨b2, o2, rfl, hb2, hy⟩ := H2.out i (by omega)
    obtain ⟨t1, t2, t3⟩ := two_cells w (.slice (some ⟨b1, o1, none⟩) cs.length c1) (.slice (some ⟨b2, o2, none⟩) ds.length c2) 57 57 m
    exact ahead1_any b1 o1 cs.length c1 b2 o2 ds.length c2 _ _ _ _ i _ t1 t2 (by omega) (by omega) (by rw [t3 _ _ hb1]; exact hx) (by rw [t3 _ _ hb2]; exact hy)
  · rintro e w' ⟨rfl, m, rfl⟩
    go_wp2_with fail
    go_ret
    exact ⟨rfl, m, rfl⟩

def runeVals (cs : List Nat) : List Value := cs.map fun (c : Nat) => Value.int .i32 (c : Int)
theorem runesFrom_T (cs : List Nat) (h : allOk cs) (k : Nat) (hk : k ≤ cs.length) (b : Nat) (hb : cs.length - k ≤ b) (acc : Array Value) :
    Conv.runesFrom (T cs) b (txt (cs.take k)).length acc = acc ++ (runeVals (cs.drop k)).toArray := by
  induction b generalizing k acc with
  | zero =>
    have : k = cs.length := by omega
    subst this
    simp [Conv.runesFrom, runeVals]
  | succ b ih =>
    unfold Conv.runesFrom
    by_cases hlt : k < cs.length
    · have hd := T_dec cs h k hlt
      rw [← decode_eq] at hd
      have hp1 := enc_pos (cs.getD k 0)
      have hls := len_succ cs k hlt
      have hle := len_take_le cs (k + 1)
      rw [if_pos (by rw [T_size]; omega), hd]
      simp only
      have e : runeVals (cs.drop k) = .int .i32 ((cs.getD k 0 : Nat) : Int) :: runeVals (cs.drop (k + 1)) := by
        rw [List.drop_eq_getElem_cons hlt, List.getD_eq_getElem?_getD, List.getElem?_eq_getElem hlt]
        rfl
      rw [← hls, ih (k + 1) (by omega) (by omega), e]
      simp
    · have : k = cs.length := by omega
      subst this
      rw [List.take_length, if_neg (by rw [T_size]; omega), List.drop_length]
      simp [runeVals]
theorem runesFrom_all (cs : List Nat) (h : allOk cs) : Conv.runesFrom (T cs) (T cs).size 0 #[] = (runeVals cs).toArray := by
  have := runesFrom_T cs h 0 (Nat.zero_le _) (T cs).size (by rw [T_size]; have := (txt_len cs).1; omega) #[]
  simpa [txt] using this

/-- The new row of a text's runes: the runes, then noughts. -/
def runeBlock (cs : List Nat) (cap : Nat) : Obj := .cells ((runeVals cs).toArray ++ Array.replicate (cap - cs.length) (.int .i32 0)) 21
theorem conv_run (cs : List Nat) (h : allOk cs) (hn : cs.length ≤ 20000) (w : World) : ∃ cap, cs.length ≤ cap ∧
    (convert 9 57 (.string (T cs))).run Tryd.prog w = .ok (.slice (some ⟨w.heap.size, 0, none⟩) cs.length cap) ((w.alloc (runeBlock cs cap)).drew) := by
  have hr := runesFrom_all cs h
  have hs : (Conv.runesFrom (T cs) (T cs).size 0 #[]).size = cs.length := by rw [hr]; simp [runeVals]
  have := run_runes_of_string (P := Tryd.prog) w 9 57 21 (T cs) Tryd.underlying9 Tryd.underlying57 Tryd.underlying21 (by rw [hs]; omega)
  rw [hr] at this
  have hs2 : (runeVals cs).toArray.size = cs.length := by simp [runeVals]
  rw [hs2] at this
  exact ⟨_, grownCap_ge w cs.length 0 21, this⟩
theorem holds_new (cs : List Nat) (cap : Nat) (hc : cs.length ≤ cap) (w : World) (W : World) (n : Nat) (hnw : n < W.heap.size) (hW : ∀ o, W.cell? ⟨n, o, none⟩ = (w.alloc (runeBlock cs cap)).cell? ⟨w.heap.size, o, none⟩) :
    Holds .i32 W (.slice (some ⟨n, 0, none⟩) cs.length cap) cs := by
  refine ⟨_, _, rfl, hc, fun i hi => ⟨n, 0, rfl, hnw, ?_⟩⟩
  rw [hW]
  unfold runeBlock
  rw [World.cell?_alloc_at _ _ _ _ rfl]
  simp [runeVals, Array.getElem?_append, List.getD_eq_getElem?_getD, hi]

set_option maxHeartbeats 400000 in
theorem Ahead_no (a b : ByteArray) (w : World) (h : rd a.data.toList = none ∨ rd b.data.toList = none) (ha : a.size ≤ maxLen) (hb : b.size ≤ maxLen) :
    Calls Tryd.prog 18 #[.string a, .string b] w fun e w' => e = .returned (.tuple #[.int .i64 0, .int .i64 10]) ∧ Below w.heap.size w w' := by
  have H := Lib.hid h; clear h
  go_enter Tryd.func18, Tryd.ntmps18
  go_wp2_with fail
  refine (counts_no a b _ H.out ha hb).mono ?_
  rintro e w1 ⟨rfl, hb1⟩
  go_wp2_with fail
  go_ret2
  exact ⟨rfl, hb1⟩
set_option maxHeartbeats 400000 in
theorem Ahead_ok (cs ds : List Nat) (w : World) (hc : allOk cs) (hd : allOk ds) (hl : cs.length ≤ 20000) (hl2 : ds.length ≤ 20000) :
    Calls Tryd.prog 18 #[.string (T cs), .string (T ds)] w fun e w' => e = .returned (.tuple #[.int .i64 (pre cs ds : Nat), .int .i64 0]) ∧ Below w.heap.size w w' := by
  have hlc := (txt_len cs).2
  have hld := (txt_len ds).2
  have H1 := Lib.hid (rd_txt cs hc hl)
  have H2 := Lib.hid (rd_txt ds hd hl2)
  go_enter Tryd.func18, Tryd.ntmps18
  go_wp2_with fail
  refine (counts_ok (T cs) (T ds) cs ds _ H1.out H2.out (by rw [T_size]; unfold maxLen; omega) (by rw [T_size]; unfold maxLen; omega)).mono ?_
  rintro e w1 ⟨rfl, hb1⟩
  have hs1 := hb1.size
  obtain ⟨k1, hk1, r1⟩ := conv_run cs hc hl w1
  obtain ⟨k2, hk2, r2⟩ := conv_run ds hd hl2 ((w1.alloc (runeBlock cs k1)).drew)
  go_wp2_with fail
  refine (ahead_any cs ds _ _ _ (holds_new cs k1 hk1 w1 _ _ (by simp; omega) (fun o => ?_)) (holds_new ds k2 hk2 (w1.alloc (runeBlock cs k1)) _ _ (by simp) (fun o => ?_)) hl hl2).mono ?_
  · simp only [World.cell?_drew]
    rw [World.cell?_alloc_past _ _ _ (by simp)]
  · simp
  · rintro e w2 ⟨rfl, m, rfl⟩
    go_wp2_with fail
    go_ret2
    exact ⟨rfl, below_drewN ((((hb1.alloc hs1 _).alloc (by simp; omega) _).alloc (by simp; omega) _).alloc (by simp; omega) _) _⟩
end Go.Proofs.YtpjblmhhcadcbaaDoor
