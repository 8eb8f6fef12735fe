import Derived.Test.YtadookafnfnaoaaGreatDoorGS9
import Derived.Test.YtadookafnfnaoaaGreatDoorGS4
import Derived.Test.YtadookafnfnaoaaGreatDoorGS7
import Derived.Shelf.Strings.BuilderK
import Derived.LoopTactic
import Derived.Deep.LoopGhost
import Derived.StillTailTactics
import Derived.Lib.AppendIntMem
/- strings.Builder's WriteByte and WriteString at this dump, in the forms that say what else they keep: the library's contracts, laid by hand (see XShelfW). -/
namespace Go.Proofs
open Go.Shelf
def Tryz.lays167_ren : Go.Shelf.Ren := ⟨fun | 167 => 61 | 240 => 59 | 276 => 88 | n => n, fun | 0 => 0 | 3 => 3 | 4 => 4 | 5 => 5 | 9 => 9 | 20 => 20 | 37 => 57 | 70 => 56 | 72 => 59 | 75 => 61 | 80 => 67 | 164 => 119 | n => n, fun | n => n⟩
theorem Tryz.lays167 : Go.Proofs.Lays.n167 Tryz.prog Tryz.lays167_ren := {
  mixed := by kernel_rfl
  f167 := Tryz.func61.trans (congrArg some (by kernel_rfl))
  f240 := Tryz.func59.trans (congrArg some (by kernel_rfl))
  f276 := Tryz.func88.trans (congrArg some (by kernel_rfl))
  t0 := Tryz.underlying0
  a0 := Tryz.isAgg0
  z0 := Tryz.sizeOf0
  v0 := Tryz.zeroValue0
  t4 := Tryz.underlying4
  a4 := Tryz.isAgg4
  z4 := Tryz.sizeOf4
  v4 := Tryz.zeroValue4
  t5 := Tryz.underlying5
  a5 := Tryz.isAgg5
  z5 := Tryz.sizeOf5
  v5 := Tryz.zeroValue5
  t9 := Tryz.underlying9
  a9 := Tryz.isAgg9
  z9 := Tryz.sizeOf9
  v9 := Tryz.zeroValue9
  t20 := Tryz.underlying20
  a20 := Tryz.isAgg20
  z20 := Tryz.sizeOf20
  v20 := Tryz.zeroValue20
  t37 := Tryz.underlying57
  a37 := Tryz.isAgg57
  z37 := Tryz.sizeOf57
  v37 := Tryz.zeroValue57
  t70 := Tryz.underlying56
  a70 := Tryz.isAgg56
  z70 := Tryz.sizeOf56
  v70 := Tryz.zeroValue56
  t72 := Tryz.underlying59
  a72 := Tryz.isAgg59
  z72 := Tryz.sizeOf59
  v72 := Tryz.zeroValue59
  t75 := Tryz.underlying61
  a75 := Tryz.isAgg61
  z75 := Tryz.sizeOf61
  v75 := Tryz.zeroValue61
  t164 := Tryz.underlying119
  a164 := Tryz.isAgg119
  z164 := Tryz.sizeOf119
  v164 := Tryz.zeroValue119 }
theorem Tryz.Builder_Extra_167 : Builder.Extra Tryz.prog Tryz.lays167_ren := {
  sizeBuilder := by kernel_rfl
  liesBuilder := by kernel_rfl
  t5 := Tryz.underlying5
  a5 := Tryz.isAgg5
  z5 := Tryz.sizeOf5
  v5 := Tryz.zeroValue5
  infoByte := by kernel_rfl
  cellsByte := by kernel_rfl
  sizeByte := by kernel_rfl
  neB5 := by decide }
open Go.RowKit in
/-- (*strings.Builder).WriteByte: it appends the byte; it hands back no error. -/
theorem Tryz.Builder_WriteByte_k (B b : Nat) (bs : List Value) (c : Int) (w : World) (h : Lib.IsBuilderF 59 5 B b bs w) (hlen : bs.length + 1 ≤ 140737488355328) (hBw : B ≤ w.heap.size) :
    Calls Tryz.prog 61 #[.pointer (some ⟨b, 0, none⟩), .int .u8 c] w fun e w' => e = .returned .nilIface ∧ (Lib.BuilderAtF 59 5 B b (.pointer (some ⟨b, 0, none⟩)) (bs ++ [.int .u8 c]) w' ∧ Below B w w' ∧ Lib.OthersKept 5 (some b) w w') := Any.Builder_WriteByte_k Tryz.lays167 Tryz.Builder_Extra_167 B b bs c w h hlen hBw
open Go.RowKit in
/-- (*strings.Builder).WriteString: it appends the contents of s; it hands back the length of s and no error. -/
theorem Tryz.Builder_WriteString_k (B b : Nat) (bs : List Value) (s : ByteArray) (w : World) (h : Lib.IsBuilderF 59 5 B b bs w) (hlen : bs.length + s.size ≤ 140737488355328) (hBw : B ≤ w.heap.size) :
    Calls Tryz.prog 31 #[.pointer (some ⟨b, 0, none⟩), .string s] w fun e w' => e = .returned (.tuple #[.int .i64 s.size, .nilIface]) ∧ (Lib.BuilderAtF 59 5 B b (.pointer (some ⟨b, 0, none⟩)) (bs ++ Lib.strCells s) w' ∧ Below B w w' ∧ Lib.OthersKept 5 (some b) w w') := Any.Builder_WriteString_k Tryz.lays166 Tryz.Builder_Extra_166 B b bs s w h hlen hBw
end Go.Proofs
/- strings.Builder by the bytes that it holds; frames of calls that write into it. -/
namespace Go.Proofs.YtadookafnfnaoaaGreatDoor
open Go.RowKit Ch

/-- The builder of block c holds these bytes; all its memory lies from B on. -/
def IsB (w : World) (B c : Nat) (l : List UInt8) : Prop := Lib.IsBuilderF 59 5 B c (Lib.byteCells l) w
theorem IsB.fresh (w : World) : IsB (w.alloc (.cells #[.pointer none, .slice none 0 0] 59)) w.heap.size w.heap.size [] := Lib.IsBuilderF.of (Lib.fresh_isBuilder _ _ w)
theorem ownsF_keep {w w' : World} {B C k n : Nat} {ts : List TypeId} {e : TypeId} {v : Value} {xs : List Value} (h : w.ownsRowF C e k v n xs) (hk : Keep B ts w w') (he : e ∉ ts) : w'.ownsRowF C e k v n xs := by
  obtain ⟨h1, h2⟩ := h
  refine ⟨h1, h2.imp id ?_⟩
  rintro ⟨g, cap, cur, fz, a1, a2, a3, a4⟩
  exact ⟨g, cap, cur, fz, a1, a2, hk.kept g cur e fz a3 he, a4⟩
theorem bAtF_keep {w w' : World} {T e : TypeId} {B C c : Nat} {ts : List TypeId} {p : Value} {xs : List Value} (h : Lib.BuilderAtF T e C c p xs w) (hk : Keep B ts w w') (h1 : T ∉ ts) (h2 : e ∉ ts) : Lib.BuilderAtF T e C c p xs w' := by
  obtain ⟨a1, v, a2, a3, a4⟩ := h
  exact ⟨a1, v, hk.kept _ _ _ _ a2 h1, ownsF_keep a3 hk h2, a4⟩
theorem IsB.keep {w w' : World} {B C c : Nat} {ts : List TypeId} {l : List UInt8} (h : IsB w C c l) (hk : Keep B ts w w') (h1 : 59 ∉ ts) (h2 : 5 ∉ ts) : IsB w' C c l :=
  h.imp (fun x => bAtF_keep x hk h1 h2) fun x => bAtF_keep x hk h1 h2
theorem IsB.base {w : World} {B c : Nat} {l : List UInt8} (h : IsB w B c l) : B ≤ c ∧ c < w.heap.size := by
  rcases h with h | h <;> exact ⟨h.1, h.lt⟩
theorem IsB.below {w w' : World} {B c : Nat} {l : List UInt8} (h : IsB w B c l) (hb : Below w.heap.size w w') : IsB w' B c l :=
  h.keep (B := w.heap.size) (ts := []) (keep_below hb (Nat.le_refl _)) (by simp) (by simp)

/-- Written in, all else stays. -/
structure Wrote (B c : Nat) (l : List UInt8) (w w' : World) : Prop where
  is : IsB w' B c l
  below : Below B w w'
  oth : Lib.OthersKept 5 (some c) w w'
theorem writeByte_l (B c : Nat) (l : List UInt8) (x : UInt8) (w : World) (h : IsB w B c l) (hl : l.length + 1 ≤ 140737488355328) :
    Calls Tryz.prog 61 #[.pointer (some ⟨c, 0, none⟩), .int .u8 x.toNat] w fun e w' => e = .returned .nilIface ∧ Wrote B c (l ++ [x]) w w' := by
  have hlt : B ≤ w.heap.size := Nat.le_of_lt (Nat.lt_of_le_of_lt h.base.1 h.base.2)
  refine (Tryz.Builder_WriteByte_k B c (Lib.byteCells l) x.toNat w h (by simpa [Lib.byteCells] using hl) hlt).mono ?_
  rintro e w' ⟨rfl, h1, h2, h3⟩
  refine ⟨rfl, .inr ?_, h2, h3⟩
  have e : Lib.byteCells (l ++ [x]) = Lib.byteCells l ++ [.int .u8 (x.toNat : Int)] := by simp [Lib.byteCells]
  rw [e]
  exact h1
theorem writeString_l (B c : Nat) (l : List UInt8) (s : ByteArray) (w : World) (h : IsB w B c l) (hl : l.length + s.size ≤ 140737488355328) :
    Calls Tryz.prog 31 #[.pointer (some ⟨c, 0, none⟩), .string s] w fun e w' => e = .returned (.tuple #[.int .i64 s.size, .nilIface]) ∧ Wrote B c (l ++ s.data.toList) w w' := by
  have hlt : B ≤ w.heap.size := Nat.le_of_lt (Nat.lt_of_le_of_lt h.base.1 h.base.2)
  refine (Tryz.Builder_WriteString_k B c (Lib.byteCells l) s w h (by simpa [Lib.byteCells] using hl) hlt).mono ?_
  rintro e w' ⟨rfl, h1, h2, h3⟩
  refine ⟨rfl, .inr ?_, h2, h3⟩
  have e : Lib.byteCells (l ++ s.data.toList) = Lib.byteCells l ++ Lib.strCells s := by simp [Lib.byteCells, Lib.strCells]
  rw [e]
  exact h1
/-- What a call keeps, a later one that writes from C on keeps too. -/
theorem Keep.later {B C : Nat} {ts : List TypeId} {a w w' : World} (h : Keep B ts a w) (hb : Below C w w') (h1 : B ≤ C) (h2 : a.heap.size ≤ C) : Keep B ts a w' :=
  ⟨h.below.trans (hb.mono h1), fun i o hi ho => (hb.block i (Nat.lt_of_lt_of_le (lt_of_heap hi) h2)).trans (h.all i o hi ho)⟩
theorem RdAt.later {C : Nat} {w w' : World} {b : Nat} {s : ByteArray} {a : Nat} (h : RdAt w b s a) (hb : Below C w w') (h1 : b < C) : RdAt w' b s a := h.keep (hb.block b h1)

end Go.Proofs.YtadookafnfnaoaaGreatDoor
/- What writes: a text in quotes. -/
namespace Go.Proofs.YtadookafnfnaoaaGreatDoor
open Go.RowKit Ch

abbrev BT : List TypeId := [59, 5]
/-- The builder of block c holds l; all else stays. -/
structure Wr (B c : Nat) (l : List UInt8) (w w' : World) : Prop where
  is : IsB w' B c l
  keep : Keep B BT w w'
theorem IsB.block {w : World} {B c : Nat} {l : List UInt8} (h : IsB w B c l) : ∃ cs fr, w.heap[c]? = some (.cells cs 59 fr) := by
  rcases h with h | h <;> exact ⟨_, _, h.2.choose_spec.1⟩
theorem Wrote.wr {B c : Nat} {l0 l : List UInt8} {w w' : World} (h0 : IsB w B c l0) (h : Wrote B c l w w') : Wr B c l w w' :=
  ⟨h.is, h.below, fun i o hi ho => h.oth i _ hi (fun hb => by
    obtain ⟨cs', fr', h2⟩ := h0.block
    obtain rfl := Option.some.inj hb
    rw [h2] at hi
    cases hi
    exact ho (List.mem_cons_self ..)) (fun c' fz h2 => by
    subst h2
    exact ho (List.mem_cons_of_mem _ (List.mem_cons_self ..)))⟩
theorem Wr.trans {B c : Nat} {l m : List UInt8} {a b d : World} (h : Wr B c l a b) (k : Wr B c m b d) : Wr B c m a d := ⟨k.is, h.keep.trans k.keep⟩
theorem Wr.refl {B c : Nat} {l : List UInt8} {w : World} (h : IsB w B c l) : Wr B c l w w := ⟨h, Keep.refl _ _ _⟩
theorem wB (B c : Nat) (l : List UInt8) (x : UInt8) (w : World) (h : IsB w B c l) (hl : l.length + 1 ≤ 140737488355328) :
    Calls Tryz.prog 61 #[.pointer (some ⟨c, 0, none⟩), .int .u8 x.toNat] w fun e w' => e = .returned .nilIface ∧ Wr B c (l ++ [x]) w w' :=
  (writeByte_l B c l x w h hl).mono fun _ _ ⟨h1, h2⟩ => ⟨h1, h2.wr h⟩
theorem wS (B c : Nat) (l : List UInt8) (s : ByteArray) (w : World) (h : IsB w B c l) (hl : l.length + s.size ≤ 140737488355328) :
    Calls Tryz.prog 31 #[.pointer (some ⟨c, 0, none⟩), .string s] w fun e w' => e = .returned (.tuple #[.int .i64 s.size, .nilIface]) ∧ Wr B c (l ++ s.data.toList) w w' :=
  (writeString_l B c l s w h hl).mono fun _ _ ⟨h1, h2⟩ => ⟨h1, h2.wr h⟩
theorem qb_take (s : ByteArray) (k : Nat) (h : k < s.size) : (s.data.toList.take (k + 1)).flatMap Sp.qb = (s.data.toList.take k).flatMap Sp.qb ++ Sp.qb s[k] := by
  have hl : k < s.data.toList.length := h
  rw [List.take_succ_eq_append_getElem hl, List.flatMap_append]
  simp
  rfl
theorem qb_le (l : List UInt8) : (l.flatMap Sp.qb).length ≤ 4 * l.length := by
  have := Sp.qt_len l
  simp only [Sp.qt, List.length_cons, List.length_append, List.length_nil] at this
  omega

theorem dg_at : ∀ n (h : n < 16), (⟨#[48, 49, 50, 51, 52, 53, 54, 55, 56, 57, 97, 98, 99, 100, 101, 102]⟩ : ByteArray)[n]'h = Sp.hexd n := by decide
set_option maxHeartbeats 4000000 in
theorem quote_any (B c : Nat) (l : List UInt8) (s : ByteArray) (w : World) (h : IsB w B c l) (hl : l.length + 4 * s.size + 2 ≤ 140737488355328) :
    Calls Tryz.prog 38 #[.pointer (some ⟨c, 0, none⟩), .string s] w fun e w' => e = .returned (.tuple #[]) ∧ Wr B c (l ++ Sp.qt s.data.toList) w w' := by
  have HA := Lib.hid (wB B c l 34 w h (by omega))
  clear h
  go_enter Tryz.func38, Tryz.ntmps38
  go_wp2_with fail
  refine HA.out.mono ?_
  rintro e w1 ⟨rfl, h1⟩
  have H1 := Lib.hid h1
  clear h1
  go_wp2_with fail
  go_loopw [10] (fun i wr => ∃ k : Nat, i = .int .i64 (k : Int) ∧ k ≤ s.size ∧ Wr B c (l ++ [34] ++ (s.data.toList.take k).flatMap Sp.qb) w wr) (fun i _ => s.size - (intOf i).toNat)
  case atStart => exact ⟨0, rfl, Nat.zero_le _, by simpa using H1.out⟩
  case round =>
    obtain ⟨k, rfl, hk, hwr⟩ := hrel
    have Hwr := Lib.hid hwr
    have hlen := qb_le (s.data.toList.take k)
    rw [List.length_take, show s.data.toList.length = s.size from rfl, Nat.min_eq_left hk] at hlen
    clear hwr
    by_cases hlt : k < s.size
    · have hlt' : (k : Int) < (s.size : Int) := by omega
      have HT := Lib.hid (qb_take s k hlt)
      obtain ⟨L, hL⟩ : ∃ L, L = l ++ [34] ++ (s.data.toList.take k).flatMap Sp.qb := ⟨_, rfl⟩
      have hLl : L.length + 5 ≤ 140737488355328 := by rw [hL]; simp only [List.length_append, List.length_cons, List.length_nil]; omega
      rw [← hL] at Hwr
      have HL := Lib.hid hL
      clear hL hlen
      have HG := Lib.hid (show ∀ M wz, Wr B c M wr wz → M = L ++ Sp.qb s[k] → Wr B c (l ++ [34] ++ (s.data.toList.take (k + 1)).flatMap Sp.qb) w wz from fun M wz hw hM => by
        rw [HT.out, ← List.append_assoc, ← HL.out, ← hM]; exact Hwr.out.trans hw)
      by_cases h10 : s[k] = 10
      · have k1 := b_is (n := 10) rfl h10
        have HQ := Lib.hid (show Sp.qb s[k] = [92, 110] by rw [h10]; rfl)
        have HS := Lib.hid (wS B c L ⟨#[92, 110]⟩ wr Hwr.out.is (by simp [ByteArray.size]; omega))
        clear h10
        go_wp2_with fail
        refine HS.out.mono ?_
        rintro e w2 ⟨rfl, h2⟩
        have H2 := Lib.hid (HG.out _ _ h2 (by rw [HQ.out]))
        clear h2
        go_wp2_with fail
        go_roundw
        case measure => simp only [intOf]; omega
        case rel => exact ⟨k + 1, rfl, hlt, H2.out⟩
      have k1 := b_not (n := 10) rfl h10
      have HC := Lib.hid fun w => control_any s[k] w
      cases hc : Sp.ctl s[k] with
      | true =>
        have HQ := Lib.hid (show Sp.qb s[k] = [92, 120, Sp.hexd (s[k].toNat / 16), Sp.hexd (s[k].toNat % 16)] by unfold Sp.qb; rw [if_neg h10, if_pos hc])
        rw [hc] at HC
        have HS := Lib.hid (wS B c L ⟨#[92, 120]⟩ wr Hwr.out.is (by simp [ByteArray.size]; omega))
        have hb := Sp.b_lt s[k]
        have j1 : 0 ≤ (s[k].toNat : Int) / 16 ∧ (s[k].toNat : Int) / 16 < 16 := by omega
        have j2 : 0 ≤ (s[k].toNat : Int) % 16 ∧ (s[k].toNat : Int) % 16 < 16 := by omega
        clear h10 hc hb
        go_wp2_with fail
        refine (HC.out _).mono ?_
        rintro e w2 ⟨rfl, rfl⟩
        go_wp2_with fail
        refine HS.out.mono ?_
        rintro e w3 ⟨rfl, h3⟩
        have H3 := Lib.hid h3
        have HB := Lib.hid fun x => wB B c (L ++ [92, 120]) x w3 h3.is (by simp only [List.length_append, List.length_cons, List.length_nil]; omega)
        clear h3
        go_wp2_with fail
        refine (HB.out _).mono ?_
        rintro e w4 ⟨rfl, h4⟩
        have H4 := Lib.hid h4
        have HB2 := Lib.hid fun x => wB B c _ x w4 h4.is (by simp only [List.length_append, List.length_cons, List.length_nil]; omega)
        clear h4
        go_wp2_with fail
        refine (HB2.out _).mono ?_
        rintro e w5 ⟨rfl, h5⟩
        have H5 := Lib.hid (HG.out _ _ ((H3.out.trans H4.out).trans h5) (by rw [HQ.out, dg_at _ (by omega), dg_at _ (by omega)]; simp))
        clear h5
        go_wp2_with fail
        go_roundw
        case measure => simp only [intOf]; omega
        case rel => exact ⟨k + 1, rfl, hlt, H5.out⟩
      | false =>
        have hc' : Sp.ctl s[k] ≠ true := by rw [hc]; decide
        rw [hc] at HC
        by_cases h9 : s[k] = 34 ∨ s[k] = 92
        · have HQ := Lib.hid (show Sp.qb s[k] = [92, s[k]] by unfold Sp.qb; rw [if_neg h10, if_neg hc', if_pos h9])
          have HB := Lib.hid (wB B c L 92 wr Hwr.out.is (by omega))
          by_cases h34 : s[k] = 34
          · have k2 := b_is (n := 34) rfl h34
            clear h10 hc hc' h9 h34
            go_wp2_with fail
            refine (HC.out _).mono ?_
            rintro e w2 ⟨rfl, rfl⟩
            go_wp2_with fail
            refine HB.out.mono ?_
            rintro e w3 ⟨rfl, h3⟩
            have H3 := Lib.hid h3
            have HB2 := Lib.hid (wB B c (L ++ [92]) s[k] w3 h3.is (by simp; omega))
            clear h3
            go_wp2_with fail
            refine HB2.out.mono ?_
            rintro e w4 ⟨rfl, h4⟩
            have H4 := Lib.hid (HG.out _ _ (H3.out.trans h4) (by rw [HQ.out]; simp))
            clear h4
            go_wp2_with fail
            go_roundw
            case measure => simp only [intOf]; omega
            case rel => exact ⟨k + 1, rfl, hlt, H4.out⟩
          · have k2 := b_not (n := 34) rfl h34
            have k3 := b_is (n := 92) rfl (h9.resolve_left h34)
            clear h10 hc hc' h9 h34
            go_wp2_with fail
            refine (HC.out _).mono ?_
            rintro e w2 ⟨rfl, rfl⟩
            go_wp2_with fail
            refine HB.out.mono ?_
            rintro e w3 ⟨rfl, h3⟩
            have H3 := Lib.hid h3
            have HB2 := Lib.hid (wB B c (L ++ [92]) s[k] w3 h3.is (by simp; omega))
            clear h3
            go_wp2_with fail
            refine HB2.out.mono ?_
            rintro e w4 ⟨rfl, h4⟩
            have H4 := Lib.hid (HG.out _ _ (H3.out.trans h4) (by rw [HQ.out]; simp))
            clear h4
            go_wp2_with fail
            go_roundw
            case measure => simp only [intOf]; omega
            case rel => exact ⟨k + 1, rfl, hlt, H4.out⟩
        · have HQ := Lib.hid (show Sp.qb s[k] = [s[k]] by unfold Sp.qb; rw [if_neg h10, if_neg hc', if_neg h9])
          have k2 := b_not (n := 34) rfl (fun h => h9 (.inl h))
          have k3 := b_not (n := 92) rfl (fun h => h9 (.inr h))
          have HB := Lib.hid (wB B c L s[k] wr Hwr.out.is (by omega))
          clear h10 hc hc' h9
          go_wp2_with fail
          refine (HC.out _).mono ?_
          rintro e w2 ⟨rfl, rfl⟩
          go_wp2_with fail
          refine HB.out.mono ?_
          rintro e w3 ⟨rfl, h3⟩
          have H3 := Lib.hid (HG.out _ _ h3 (by rw [HQ.out]))
          clear h3
          go_wp2_with fail
          go_roundw
          case measure => simp only [intOf]; omega
          case rel => exact ⟨k + 1, rfl, hlt, H3.out⟩
    · have hlt' : decide ((k : Int) < (s.size : Int)) = false := decide_eq_false (by omega)
      have hks : k = s.size := by omega
      have HB := Lib.hid (wB B c _ 34 wr Hwr.out.is (by simp only [List.length_append, List.length_cons, List.length_nil]; omega))
      go_wp2_with fail
      refine HB.out.mono ?_
      rintro e w3 ⟨rfl, h3⟩
      have H3 := Lib.hid (Hwr.out.trans h3)
      clear h3
      go_wp2_with fail
      go_end0
      refine ⟨rfl, ?_⟩
      have := H3.out
      rw [hks, show s.data.toList.take s.size = s.data.toList from List.take_of_length_le (Nat.le_refl _)] at this
      simpa [Sp.qt] using this
end Go.Proofs.YtadookafnfnaoaaGreatDoor
/- What writes attributes, an operation. -/
namespace Go.Proofs.YtadookafnfnaoaaGreatDoor
open Go.RowKit Ch

namespace Sp
def pL : List A → List UInt8
  | [] => []
  | x :: r => 123 :: (pAttr x ++ r.flatMap fun y => 44 :: pAttr y)
theorem pL_snoc (l : List A) (x : A) : pL (l ++ [x]) = pL l ++ (if l = [] then 123 else 44) :: pAttr x := by
  cases l with
  | nil => simp [pL]
  | cons y r => simp [pL]
theorem pAttrs_pL {l : List A} (h : l ≠ []) : pAttrs l = pL l ++ [125] := by
  cases l with
  | nil => exact absurd rfl h
  | cons y r => simp [pL, pAttrs, pMore]
theorem pL_le (l : List A) (h : ∀ y ∈ l, y.1.size ≤ 32 ∧ y.2.size ≤ 64) : (pL l).length ≤ 292 * l.length := by
  cases l with
  | nil => simp [pL]
  | cons x r =>
    have h1 := pMore_le (l := r) fun y hy => h y (List.mem_cons_of_mem _ hy)
    have h2 := pAttr_len (h x (List.mem_cons_self ..)).1 (h x (List.mem_cons_self ..)).2
    simp only [pMore, List.length_append, List.length_cons, List.length_nil] at h1
    simp only [pL, List.length_append, List.length_cons]
    omega
def sepOf : Nat → UInt8
  | 0 => 123
  | _ + 1 => 44
theorem pL_take {l : List A} {k : Nat} (h : k < l.length) : pL (l.take (k + 1)) = pL (l.take k) ++ sepOf k :: pAttr l[k] := by
  rw [List.take_succ_eq_append_getElem h, pL_snoc]
  cases k with
  | zero => rfl
  | succ k => rw [if_neg (by intro e; have := congrArg List.length e; rw [List.length_take, List.length_nil] at this; omega)]; rfl
end Sp

set_option maxHeartbeats 4000000 in
theorem printAttrs_any (B c : Nat) (l : List UInt8) (al : List Sp.A) (v : Value) (w : World) (h : IsB w B c l) (hv : ∀ W, Keep B BT w W → AtRow W v al) (h8 : al.length ≤ 8) (hz : ∀ y ∈ al, y.1.size ≤ 32 ∧ y.2.size ≤ 64) (hl : l.length + 2400 ≤ 140737488355328) :
    Calls Tryz.prog 62 #[.pointer (some ⟨c, 0, none⟩), v] w fun e w' => e = .returned (.tuple #[]) ∧ Wr B c (l ++ Sp.pAttrs al) w w' := by
  have Hv := Lib.hid hv
  have H := Lib.hid h
  have Hz := Lib.hid hz
  obtain ⟨a, cap, rfl⟩ := (hv w (Keep.refl _ _ _)).shape
  clear hv h hz
  by_cases h0 : al.length = 0
  · have e0 := List.length_eq_zero_iff.1 h0
    have hb : ((al.length : Int) == 0) = true := by rw [h0]; rfl
    go_enter Tryz.func62, Tryz.ntmps62
    go_wp2_with fail
    refine bodyPost_ret (results_none rfl _ _ _) rfl ⟨rfl, ?_⟩
    rw [e0]
    simpa [Sp.pAttrs] using Wr.refl H.out
  · have hb : ((al.length : Int) == 0) = false := by rw [beq_eq_false_iff_ne]; omega
    go_enter Tryz.func62, Tryz.ntmps62
    go_wp2_with fail
    go_loopw [4, 12] (fun sp i wr => ∃ k : Nat, sp = .int .u8 ((Sp.sepOf k).toNat : Int) ∧ i = .int .i64 (k : Int) ∧ k ≤ al.length ∧ Wr B c (l ++ Sp.pL (al.take k)) w wr) (fun _ i _ => al.length - (intOf i).toNat)
    case atStart => exact ⟨0, rfl, rfl, Nat.zero_le _, by simpa [Sp.pL] using Wr.refl H.out⟩
    case round =>
      obtain ⟨k, rfl, rfl, hk, hwr⟩ := hrel
      have hlen := Sp.pL_le (al.take k) fun y hy => Hz.out y (List.mem_of_mem_take hy)
      rw [List.length_take, Nat.min_eq_left hk] at hlen
      have Hwr := Lib.hid hwr
      clear hwr
      by_cases hlt : k < al.length
      · have hlt' : (k : Int) < (al.length : Int) := by omega
        have HT := Lib.hid (Sp.pL_take hlt)
        obtain ⟨L, hL⟩ : ∃ L, L = l ++ Sp.pL (al.take k) := ⟨_, rfl⟩
        have hLl : L.length + 292 ≤ 140737488355328 := by rw [hL]; simp only [List.length_append]; omega
        rw [← hL] at Hwr
        have HL := Lib.hid hL
        obtain ⟨z1, z2⟩ := Hz.out _ (List.getElem_mem hlt)
        obtain ⟨_, _, he, h1, h2, h3⟩ := Hv.out wr Hwr.out.keep
        simp only [Value.slice.injEq, true_and] at he
        obtain ⟨rfl, rfl⟩ := he
        obtain ⟨b, off, rfl, hbl, x1, x2⟩ := h3 k hlt
        obtain ⟨x, hx⟩ : ∃ x, x = al[k] := ⟨_, rfl⟩
        rw [← hx] at x1 x2 HT z1 z2
        obtain ⟨W, hW⟩ : ∃ W, W = wr.alloc (.cells #[.string x.1, .string x.2] 53) := ⟨_, rfl⟩
        have BW := Lib.hid (show Below wr.heap.size wr W by rw [hW]; exact below_box _ _)
        have b0 := show W.heap[wr.heap.size]? = some (.cells #[.string x.1, .string x.2] 53 (0, 0)) by rw [hW]; exact heap_new _ _
        have HB0 := Lib.hid b0
        have HW := Lib.hid hW
        have isW : IsB W B c L := Hwr.out.is.below BW.out
        have HA := Lib.hid (wB B c L (Sp.sepOf k) W isW (by omega))
        have BB : B ≤ wr.heap.size := Nat.le_of_lt (Nat.lt_of_le_of_lt Hwr.out.is.base.1 Hwr.out.is.base.2)
        have KW := Lib.hid (Hwr.out.keep.trans (keep_below (ts := BT) BW.out BB))
        clear hL hlen hx hW b0 isW BB h1 h2 h3
        go_wp2_with fail
        rw [← HW.out]
        refine HA.out.mono ?_
        rintro e w2 ⟨rfl, h2⟩
        have H2 := Lib.hid h2
        have HB2 := Lib.hid (h2.keep.kept _ _ _ _ HB0.out (by decide))
        have y0 : w2.cell? ⟨wr.heap.size, 0, none⟩ = some (.string x.1) := (Lib.cell_of_heap HB2.out 0).trans rfl
        have HS := Lib.hid (wS B c _ x.1 w2 h2.is (by simp only [List.length_append, List.length_cons, List.length_nil]; omega))
        clear h2
        go_wp2_with fail
        refine HS.out.mono ?_
        rintro e w3 ⟨rfl, h3⟩
        have H3 := Lib.hid (H2.out.trans h3)
        have HB3 := Lib.hid (h3.keep.kept _ _ _ _ HB2.out (by decide))
        have HC := Lib.hid (wB B c _ 58 w3 h3.is (by simp only [List.length_append, List.length_cons, List.length_nil, ← size_data]; omega))
        clear h3 y0
        go_wp2_with fail
        refine HC.out.mono ?_
        rintro e w4 ⟨rfl, h4⟩
        have H4 := Lib.hid (H3.out.trans h4)
        have HB4 := Lib.hid (h4.keep.kept _ _ _ _ HB3.out (by decide))
        have y1 : w4.cell? ⟨wr.heap.size, 1, none⟩ = some (.string x.2) := (Lib.cell_of_heap HB4.out 1).trans rfl
        have HQ := Lib.hid (quote_any B c _ x.2 w4 h4.is (by simp only [List.length_append, List.length_cons, List.length_nil, ← size_data]; omega))
        clear h4
        go_wp2_with fail
        refine HQ.out.mono ?_
        rintro e w5 ⟨rfl, h5⟩
        have H5 := Lib.hid (H4.out.trans h5)
        clear h5 y1
        go_wp2_with fail
        go_roundw
        case measure => simp only [intOf]; omega
        case rel =>
          refine ⟨k + 1, rfl, rfl, hlt, ?_, KW.out.trans H5.out.keep⟩
          have := H5.out.is
          rw [HT.out, ← List.append_assoc, ← HL.out]
          simpa [Sp.pAttr] using this
      · have hlt' : decide ((k : Int) < (al.length : Int)) = false := decide_eq_false (by omega)
        have hks : k = al.length := by omega
        have HB := Lib.hid (wB B c _ 125 wr Hwr.out.is (by simp only [List.length_append]; omega))
        go_wp2_with fail
        refine HB.out.mono ?_
        rintro e w3 ⟨rfl, h3⟩
        have H3 := Lib.hid (Hwr.out.trans h3)
        clear h3
        go_wp2_with fail
        first | go_end0 | refine bodyPost_ret (results_none rfl _ _ _) rfl ?_
        refine ⟨rfl, ?_⟩
        have := H3.out
        rw [hks, List.take_length, List.append_assoc, ← Sp.pAttrs_pL (fun e => h0 (by rw [e]; rfl))] at this
        exact this
end Go.Proofs.YtadookafnfnaoaaGreatDoor
/- What writes an operation. -/
namespace Go.Proofs.YtadookafnfnaoaaGreatDoor
open Go.RowKit Ch

/-- The powers of ten stand in their table. -/
def Pow (w : World) : Prop := Lib.TabIs Tryz.prog w "internal/strconv.uint64pow10" .u64 Lib.pow10Tab
theorem Pow.below {B : Nat} {w w' : World} (h : Pow w) (hb : Below B w w') (hB : 2 < B) : Pow w' := by
  have hg : Tryz.prog.globalNamed "internal/strconv.uint64pow10" = some 2 := by kernel_rfl
  unfold Pow Lib.TabIs World.var? at *
  rw [hg] at *
  simp only [Option.bind_some] at *
  rw [hb.block _ hB]
  exact h
theorem itoa_any (n : Int) (h0 : 0 ≤ n) (h1 : n ≤ 20000) (w : World) (hp : Pow w) :
    Calls Tryz.prog 32 #[.int .i64 n] w fun e w' => e = .returned (.string (Sp.ba (Lib.itoa n))) ∧ Below w.heap.size w w' :=
  (Tryz.strconv_Itoa n (by omega) (by omega) w hp).mono fun e w' ⟨h, k, os, h2⟩ => ⟨h, by rw [h2]; exact Lib.below_grow _ w (Nat.le_refl _) k os⟩
theorem isB_lt {w : World} {B c : Nat} {l : List UInt8} (h : IsB w B c l) : B ≤ w.heap.size := Nat.le_of_lt (Nat.lt_of_le_of_lt h.base.1 h.base.2)

set_option maxHeartbeats 4000000 in
theorem printOp_any (B c : Nat) (l : List UInt8) (o : OpD) (v : Value) (w : World) (h : IsB w B c l) (hv : ∀ W, Keep B BT w W → AtRow W v o.attrs) (hk : o.kind = 1 ∨ o.kind = 2 ∨ o.kind = 3) (h8 : o.attrs.length ≤ 8) (hz : ∀ y ∈ o.attrs, y.1.size ≤ 32 ∧ y.2.size ≤ 64)
    (h0 : 0 ≤ o.n) (h1 : o.n ≤ 20000) (ht : o.text.size ≤ 80000) (hp : Pow w) (hpB : 2 < B) (hl : l.length + 400000 ≤ 140737488355328) :
    Calls Tryz.prog 33 #[.pointer (some ⟨c, 0, none⟩), opAgg o v] w fun e w' => e = .returned (.tuple #[]) ∧ Wr B c (l ++ Sp.pOp o) w w' := by
  have Hv := Lib.hid hv
  have Hz := Lib.hid hz
  have hlt := isB_lt h
  obtain ⟨W, hW⟩ : ∃ W, W = w.alloc (.cells #[.int .i64 o.kind, .int .i64 o.n, .string o.text, v] 48) := ⟨_, rfl⟩
  have bw := show Below w.heap.size w W by rw [hW]; exact below_box _ _
  have BW := Lib.hid bw
  have b0 := show W.heap[w.heap.size]? = some (.cells #[.int .i64 o.kind, .int .i64 o.n, .string o.text, v] 48 (0, 0)) by rw [hW]; exact heap_new _ _
  have HB0 := Lib.hid b0
  have HW := Lib.hid hW
  have HA := Lib.hid (wB B c l 32 W (h.below bw) (by omega))
  have KW := Lib.hid (keep_below (ts := BT) bw hlt)
  have HP := Lib.hid (hp.below bw (Nat.lt_of_lt_of_le hpB hlt))
  clear hv hz hW bw b0 h hp
  go_enter Tryz.func33, Tryz.ntmps33
  go_wp2_with fail
  rw [← HW.out]
  refine HA.out.mono ?_
  rintro e w1 ⟨rfl, q1⟩
  have H1 := Lib.hid q1
  have HB1 := Lib.hid (q1.keep.kept _ _ _ _ HB0.out (by decide))
  have HP1 := Lib.hid (HP.out.below q1.keep.below hpB)
  have y0 : w1.cell? ⟨w.heap.size, 0, none⟩ = some (.int .i64 o.kind) := (Lib.cell_of_heap HB1.out 0).trans rfl
  have y1 : w1.cell? ⟨w.heap.size, 1, none⟩ = some (.int .i64 o.n) := (Lib.cell_of_heap HB1.out 1).trans rfl
  have y2 : w1.cell? ⟨w.heap.size, 2, none⟩ = some (.string o.text) := (Lib.cell_of_heap HB1.out 2).trans rfl
  clear q1
  have HN := Lib.hid fun W hW => itoa_any o.n h0 h1 W hW
  rcases hk with hk | hk | hk
  · have k1 : (o.kind == 1) = true := by rw [hk]; rfl
    have HE := Lib.hid (show Sp.pOp o = 32 :: 61 :: (Lib.itoa o.n ++ Sp.pAttrs o.attrs) by simp [Sp.pOp, Sp.pKind, hk])
    have HLn := Lib.hid (Sp.itoa_len h0 h1)
    clear hk
    have HC := Lib.hid (wB B c _ 61 w1 H1.out.is (by simp only [List.length_append, List.length_cons, List.length_nil]; omega))
    go_wp2_with fail
    refine HC.out.mono ?_
    rintro e w2 ⟨rfl, q2⟩
    have H2 := Lib.hid (H1.out.trans q2)
    have HB2 := Lib.hid (q2.keep.kept _ _ _ _ HB1.out (by decide))
    have HP2 := Lib.hid (HP1.out.below q2.keep.below hpB)
    have yn : w2.cell? ⟨w.heap.size, 1, none⟩ = some (.int .i64 o.n) := (Lib.cell_of_heap HB2.out 1).trans rfl
    clear q2 y0 y1 y2
    go_wp2_with fail
    refine (HN.out _ HP2.out).mono ?_
    rintro e w3 ⟨rfl, q3⟩
    have B2w := isB_lt H2.out.is
    have K3 := Lib.hid (H2.out.keep.trans (keep_below (ts := BT) q3 B2w))
    have HB3 := Lib.hid ((q3.block _ (lt_of_heap HB2.out)).trans HB2.out)
    have HS := Lib.hid (wS B c _ (Sp.ba (Lib.itoa o.n)) w3 (H2.out.is.below q3) (by have := HLn.out; rw [size_data, Sp.data_ba]; simp only [List.length_append, List.length_cons, List.length_nil]; omega))
    clear q3 yn
    go_wp2_with fail
    refine HS.out.mono ?_
    rintro e w4 ⟨rfl, q4⟩
    have H4 := Lib.hid q4
    have HB4 := Lib.hid (q4.keep.kept _ _ _ _ HB3.out (by decide))
    have K4 := Lib.hid (K3.out.trans q4.keep)
    have hln := HLn.out
    rw [Sp.data_ba] at H4
    clear q4
    have y3 : w4.cell? ⟨w.heap.size, 3, none⟩ = some v := (Lib.cell_of_heap HB4.out 3).trans rfl
    have HT := Lib.hid (printAttrs_any B c _ o.attrs v w4 H4.out.is (fun X hX => Hv.out X (KW.out.trans (K4.out.trans hX))) h8 Hz.out (by simp only [List.length_append, List.length_cons, List.length_nil]; omega))
    go_wp2_with fail
    refine HT.out.mono ?_
    rintro e w6 ⟨rfl, q6⟩
    have H6 := Lib.hid q6
    clear q6
    go_wp2_with fail
    first | go_end0 | refine bodyPost_ret (results_none rfl _ _ _) rfl ?_
    refine ⟨rfl, ?_, KW.out.trans (K4.out.trans H6.out.keep)⟩
    have := H6.out.is
    rw [HE.out]
    simpa [Sp.data_ba] using this
  · have k1 : (o.kind == 1) = false := by rw [hk]; rfl
    have k3 : (o.kind == 3) = false := by rw [hk]; rfl
    have k2 : (o.kind == 2) = true := by rw [hk]; rfl
    have HE := Lib.hid (show Sp.pOp o = 32 :: 43 :: (Sp.qt o.text.data.toList ++ Sp.pAttrs o.attrs) by simp [Sp.pOp, Sp.pKind, hk])
    clear hk
    have HC := Lib.hid (wB B c _ 43 w1 H1.out.is (by simp only [List.length_append, List.length_cons, List.length_nil]; omega))
    go_wp2_with fail
    refine HC.out.mono ?_
    rintro e w2 ⟨rfl, q2⟩
    have H2 := Lib.hid (H1.out.trans q2)
    have HB2 := Lib.hid (q2.keep.kept _ _ _ _ HB1.out (by decide))
    have yn : w2.cell? ⟨w.heap.size, 2, none⟩ = some (.string o.text) := (Lib.cell_of_heap HB2.out 2).trans rfl
    have HQ := Lib.hid (quote_any B c _ o.text w2 H2.out.is (by simp only [List.length_append, List.length_cons, List.length_nil]; omega))
    clear q2 y0 y1 y2
    go_wp2_with fail
    refine HQ.out.mono ?_
    rintro e w4 ⟨rfl, q4⟩
    have H4 := Lib.hid q4
    have HB4 := Lib.hid (q4.keep.kept _ _ _ _ HB2.out (by decide))
    have K4 := Lib.hid (H2.out.keep.trans q4.keep)
    have hln := Sp.qt_len o.text.data.toList
    rw [← size_data] at hln
    clear q4 yn
    have y3 : w4.cell? ⟨w.heap.size, 3, none⟩ = some v := (Lib.cell_of_heap HB4.out 3).trans rfl
    have HT := Lib.hid (printAttrs_any B c _ o.attrs v w4 H4.out.is (fun X hX => Hv.out X (KW.out.trans (K4.out.trans hX))) h8 Hz.out (by simp only [List.length_append, List.length_cons, List.length_nil]; omega))
    go_wp2_with fail
    refine HT.out.mono ?_
    rintro e w6 ⟨rfl, q6⟩
    have H6 := Lib.hid q6
    clear q6
    go_wp2_with fail
    first | go_end0 | refine bodyPost_ret (results_none rfl _ _ _) rfl ?_
    refine ⟨rfl, ?_, KW.out.trans (K4.out.trans H6.out.keep)⟩
    have := H6.out.is
    rw [HE.out]
    simpa [Sp.data_ba] using this
  · have k1 : (o.kind == 1) = false := by rw [hk]; rfl
    have k3 : (o.kind == 3) = true := by rw [hk]; rfl
    have HE := Lib.hid (show Sp.pOp o = 32 :: 45 :: (Lib.itoa o.n ++ Sp.pAttrs o.attrs) by simp [Sp.pOp, Sp.pKind, hk])
    have HLn := Lib.hid (Sp.itoa_len h0 h1)
    clear hk
    have HC := Lib.hid (wB B c _ 45 w1 H1.out.is (by simp only [List.length_append, List.length_cons, List.length_nil]; omega))
    go_wp2_with fail
    refine HC.out.mono ?_
    rintro e w2 ⟨rfl, q2⟩
    have H2 := Lib.hid (H1.out.trans q2)
    have HB2 := Lib.hid (q2.keep.kept _ _ _ _ HB1.out (by decide))
    have HP2 := Lib.hid (HP1.out.below q2.keep.below hpB)
    have yn : w2.cell? ⟨w.heap.size, 1, none⟩ = some (.int .i64 o.n) := (Lib.cell_of_heap HB2.out 1).trans rfl
    clear q2 y0 y1 y2
    go_wp2_with fail
    refine (HN.out _ HP2.out).mono ?_
    rintro e w3 ⟨rfl, q3⟩
    have B2w := isB_lt H2.out.is
    have K3 := Lib.hid (H2.out.keep.trans (keep_below (ts := BT) q3 B2w))
    have HB3 := Lib.hid ((q3.block _ (lt_of_heap HB2.out)).trans HB2.out)
    have HS := Lib.hid (wS B c _ (Sp.ba (Lib.itoa o.n)) w3 (H2.out.is.below q3) (by have := HLn.out; rw [size_data, Sp.data_ba]; simp only [List.length_append, List.length_cons, List.length_nil]; omega))
    clear q3 yn
    go_wp2_with fail
    refine HS.out.mono ?_
    rintro e w4 ⟨rfl, q4⟩
    have H4 := Lib.hid q4
    have HB4 := Lib.hid (q4.keep.kept _ _ _ _ HB3.out (by decide))
    have K4 := Lib.hid (K3.out.trans q4.keep)
    have hln := HLn.out
    rw [Sp.data_ba] at H4
    clear q4
    have y3 : w4.cell? ⟨w.heap.size, 3, none⟩ = some v := (Lib.cell_of_heap HB4.out 3).trans rfl
    have HT := Lib.hid (printAttrs_any B c _ o.attrs v w4 H4.out.is (fun X hX => Hv.out X (KW.out.trans (K4.out.trans hX))) h8 Hz.out (by simp only [List.length_append, List.length_cons, List.length_nil]; omega))
    go_wp2_with fail
    refine HT.out.mono ?_
    rintro e w6 ⟨rfl, q6⟩
    have H6 := Lib.hid q6
    clear q6
    go_wp2_with fail
    first | go_end0 | refine bodyPost_ret (results_none rfl _ _ _) rfl ?_
    refine ⟨rfl, ?_, KW.out.trans (K4.out.trans H6.out.keep)⟩
    have := H6.out.is
    rw [HE.out]
    simpa [Sp.data_ba] using this
end Go.Proofs.YtadookafnfnaoaaGreatDoor
/- The program's end: the whole row, its last keep dropped if it says nothing. -/
namespace Go.Proofs.YtadookafnfnaoaaGreatDoor
open Go.RowKit Ch

theorem own_front {w : World} {B gg cap : Nat} {fr : List (OpD × Value)} {p : OpD × Value} (h : w.ownsRow B 48 4 (.slice (some ⟨gg, 0, none⟩) (fr.length + 1) cap) (fr.length + 1) (flatO (fr ++ [p]))) :
    w.ownsRow B 48 4 (.slice (some ⟨gg, 0, none⟩) fr.length cap) fr.length (flatO fr) := by
  rcases h.2 with ⟨h', _⟩ | ⟨g', cap', cur, h', hb, hg, hn, hm, hc, ht⟩
  · simp at h'
  · simp only [Value.slice.injEq, Option.some.injEq, Addr.mk.injEq, and_true, true_and] at h'
    obtain ⟨rfl, rfl⟩ := h'
    refine ⟨flatO_len _, .inr ⟨gg, cap, cur, rfl, hb, hg, by omega, hm, hc, ?_⟩⟩
    have h2 := congrArg (List.take (fr.length * 4)) ht
    rw [List.take_take, flatO_snoc, List.take_append_of_le_length (by rw [flatO_len]; omega), List.take_of_length_le (l := flatO fr) (by rw [flatO_len]; omega)] at h2
    rw [← h2]
    congr 1
    omega
theorem slice_ops (g n cap k : Nat) (hk : k ≤ cap) (W : World) : (Instr.sliceAt 22 (.slice (some ⟨g, 0, none⟩) n cap) none (some (.int .i64 (k : Int))) none).run Tryz.prog W = .ok (.slice (some ⟨g, 0, none⟩) k cap) W := by
  have he : Tryz.prog.elem 22 = 48 := by kernel_rfl
  have hu : Tryz.prog.underlying 22 = some (.slice (Tryz.prog.elem 22)) := by kernel_rfl
  rw [run_sliceAt_slice W _ _ _ _ _ hu, run_slice_h W _ _ _ _ hu .i64 _ (by omega) (by omega), he, Tryz.sizeOf48, Int.toNat_natCast]
  have e : sliced (some ⟨g, 0, none⟩) 0 k cap 4 = .slice (some ⟨g, 0, none⟩) k cap := by
    unfold sliced
    split <;> simp [Addr.add]
  rw [← e]; rfl

theorem map_snoc {ps : List (OpD × Value)} {l : List OpD} {x : OpD} (h : ps.map (·.1) = l ++ [x]) : ∃ fr xv, ps = fr ++ [(x, xv)] ∧ fr.map (·.1) = l := by
  obtain ⟨a, b, rfl, h1, h2⟩ := List.map_eq_append_iff.1 h
  cases b with
  | nil => simp at h2
  | cons p b =>
    simp only [List.map_cons, List.cons.injEq, List.map_eq_nil_iff] at h2
    obtain ⟨rfl, rfl⟩ := h2
    exact ⟨a, p.2, rfl, h1⟩
def EndOut (w : World) (B : Nat) (s : List OpD × Int) (e : Ending) (w' : World) : Prop := ∃ v, e = .returned v ∧ OwnOps w' B v (trim (flush s)).reverse ∧ Keep B TS w w'

set_option maxHeartbeats 4000000 in
set_option maxRecDepth 100000 in
theorem end_any (B b : Nat) (ov : Value) (s : List OpD × Int) (w : World) (h : NSt w B b ov s.1 s.2) (hB : B ≤ b) (hg : 0 ≤ s.2) (hf : Fits s.1 (delO s.2)) (hl : (flush s).length ≤ 1000000) :
    Calls Tryz.prog 87 #[.pointer (some ⟨b, 0, none⟩)] w (EndOut w B s) := by
  obtain ⟨l, g⟩ := s
  have HD := Lib.hid (deleted_any B b ov l g w h hB hg hf)
  have HL := Lib.hid hl
  clear h hg hf hl
  cases hfl : flush (l, g) with
  | nil =>
    have HR := Lib.hid (show (trim (flush (l, g))).reverse = [] by rw [hfl]; rfl)
    have HFL := Lib.hid hfl
    clear hfl
    go_enter Tryz.func87, Tryz.ntmps87
    go_wp2_with fail
    refine HD.out.mono ?_
    rintro e wA ⟨rfl, ovA, NA, KA⟩
    have HNA := Lib.hid NA
    have HKA := Lib.hid KA
    clear NA KA
    go_wp2_with fail
    refine (finish_any B b ovA _ 0 _ HNA.out hB (by have := HL.out; omega)).mono ?_
    rintro e wF ⟨rfl, F1, KF⟩
    obtain ⟨ps, ad, bv, hN, _, hP, _, hps⟩ := F1
    rw [HFL.out] at hps
    have h0 : ps = [] := List.map_eq_nil_iff.1 hps
    subst h0
    obtain ⟨oa, oc, rfl⟩ := own_slice hP.1
    have k0 : wF.cell? ⟨b, 0, none⟩ = some (.slice oa 0 oc) := hN.cells.1
    have HP := Lib.hid hP
    have HK := Lib.hid (HKA.out.keep.trans KF.keep)
    clear hN hP hps KF
    go_wp2_with fail
    go_ret
    exact ⟨_, rfl, by rw [HR.out]; exact ⟨[], rfl, HP.out⟩, HK.out⟩
  | cons x r =>
    have HFL := Lib.hid hfl
    clear hfl
    by_cases hk : x.kind = 1
    · have t1 : (x.kind == 1) = true := by rw [hk]; rfl
      by_cases ha : x.attrs.length = 0
      · have a1 : ((x.attrs.length : Int) == 0) = true := by rw [ha]; rfl
        have a2 : (x.attrs.length == 0) = true := by rw [ha]; rfl
        have HR := Lib.hid (show (trim (flush (l, g))).reverse = r.reverse by rw [HFL.out, trim, if_pos ⟨hk, ha⟩])
        clear hk ha
        go_enter Tryz.func87, Tryz.ntmps87
        go_wp2_with fail
        refine HD.out.mono ?_
        rintro e wA ⟨rfl, ovA, NA, KA⟩
        have HNA := Lib.hid NA
        have HKA := Lib.hid KA
        clear NA KA
        go_wp2_with fail
        refine (finish_any B b ovA _ 0 _ HNA.out hB (by have := HL.out; omega)).mono ?_
        rintro e wF ⟨rfl, F1, KF⟩
        obtain ⟨ps, ad, bv, hN, _, hP, _, hps⟩ := F1
        rw [HFL.out] at hps
        have HPS := Lib.hid hps
        obtain ⟨fr, xv, rfl, hfr⟩ := map_snoc (hps.trans List.reverse_cons)
        obtain ⟨gg, cap, hov⟩ := ownsRow_open hP.len (Nat.succ_pos _)
        subst hov
        obtain ⟨xa, xc, hxv⟩ : ∃ a c, xv = .slice a x.attrs.length c := own_slice (hP.2 (x, xv) (by simp))
        subst hxv
        obtain ⟨q0, q1, q2, q3⟩ := last_cells hP.len
        have k0 : wF.cell? ⟨b, 0, none⟩ = some (.slice (some ⟨gg, 0, none⟩) (fr.length + 1) cap) := hN.cells.1
        have hm : fr.length ≤ 1000000 := by
          have h1 := congrArg List.length hfr
          rw [List.length_map, List.length_reverse] at h1
          have h2 := HL.out
          rw [HFL.out, List.length_cons] at h2
          omega
        have hcap : fr.length ≤ cap := by
          rcases hP.len.2 with ⟨h', _⟩ | ⟨g', cap', cur, h', _, _, hn, _⟩
          · simp at h'
          · simp only [Value.slice.injEq] at h'
            omega
        have HCAP := Lib.hid hcap
        have i1 : (0 : Int) ≤ (fr.length : Int) := by omega
        have i2 : (fr.length : Int) < (fr.length : Int) + 1 := by omega
        have i3 : decide ((0 : Int) ≤ (fr.length : Int)) = true := decide_eq_true (by omega)
        have HP := Lib.hid hP
        have HFR := Lib.hid hfr
        have HK := Lib.hid (HKA.out.keep.trans KF.keep)
        clear hN hP hps KF hfr q1 q2 hcap
        go_wp2_with (refine wpList_sliced (.slice (some ⟨gg, 0, none⟩) (fr.length + 1) cap) (.slice (some ⟨gg, 0, none⟩) fr.length cap) rfl (slice_ops _ _ _ _ HCAP.out _) ?_)
        go_ret
        exact ⟨_, rfl, by rw [HR.out]; exact ⟨fr, HFR.out, own_front HP.out.len, fun p hp => HP.out.2 p (List.mem_append_left _ hp)⟩, HK.out⟩
      · have a1 : ((x.attrs.length : Int) == 0) = false := by rw [beq_eq_false_iff_ne]; omega
        have a2 : (x.attrs.length == 0) = false := by rw [beq_eq_false_iff_ne]; omega
        have HR := Lib.hid (show (trim (flush (l, g))).reverse = (x :: r).reverse by rw [HFL.out, trim, if_neg fun h => ha h.2])
        clear hk ha
        go_enter Tryz.func87, Tryz.ntmps87
        go_wp2_with fail
        refine HD.out.mono ?_
        rintro e wA ⟨rfl, ovA, NA, KA⟩
        have HNA := Lib.hid NA
        have HKA := Lib.hid KA
        clear NA KA
        go_wp2_with fail
        refine (finish_any B b ovA _ 0 _ HNA.out hB (by have := HL.out; omega)).mono ?_
        rintro e wF ⟨rfl, F1, KF⟩
        obtain ⟨ps, ad, bv, hN, _, hP, _, hps⟩ := F1
        rw [HFL.out] at hps
        have HPS := Lib.hid hps
        obtain ⟨fr, xv, rfl, hfr⟩ := map_snoc (hps.trans List.reverse_cons)
        obtain ⟨gg, cap, hov⟩ := ownsRow_open hP.len (Nat.succ_pos _)
        subst hov
        obtain ⟨xa, xc, hxv⟩ : ∃ a c, xv = .slice a x.attrs.length c := own_slice (hP.2 (x, xv) (by simp))
        subst hxv
        obtain ⟨q0, q1, q2, q3⟩ := last_cells hP.len
        have k0 : wF.cell? ⟨b, 0, none⟩ = some (.slice (some ⟨gg, 0, none⟩) (fr.length + 1) cap) := hN.cells.1
        have hm : fr.length ≤ 1000000 := by
          have h1 := congrArg List.length hfr
          rw [List.length_map, List.length_reverse] at h1
          have h2 := HL.out
          rw [HFL.out, List.length_cons] at h2
          omega
        have hcap : fr.length ≤ cap := by
          rcases hP.len.2 with ⟨h', _⟩ | ⟨g', cap', cur, h', _, _, hn, _⟩
          · simp at h'
          · simp only [Value.slice.injEq] at h'
            omega
        have HCAP := Lib.hid hcap
        have i1 : (0 : Int) ≤ (fr.length : Int) := by omega
        have i2 : (fr.length : Int) < (fr.length : Int) + 1 := by omega
        have i3 : decide ((0 : Int) ≤ (fr.length : Int)) = true := decide_eq_true (by omega)
        have HP := Lib.hid hP
        have HFR := Lib.hid hfr
        have HK := Lib.hid (HKA.out.keep.trans KF.keep)
        clear hN hP hps KF hfr q1 q2 hcap
        go_wp2_with fail
        go_ret
        exact ⟨_, rfl, by rw [HR.out]; exact ⟨_, HPS.out, HP.out⟩, HK.out⟩
    · have t1 : (x.kind == 1) = false := by rw [beq_eq_false_iff_ne]; exact hk
      have HR := Lib.hid (show (trim (flush (l, g))).reverse = (x :: r).reverse by rw [HFL.out, trim, if_neg fun h => hk h.1])
      clear hk
      go_enter Tryz.func87, Tryz.ntmps87
      go_wp2_with fail
      refine HD.out.mono ?_
      rintro e wA ⟨rfl, ovA, NA, KA⟩
      have HNA := Lib.hid NA
      have HKA := Lib.hid KA
      clear NA KA
      go_wp2_with fail
      refine (finish_any B b ovA _ 0 _ HNA.out hB (by have := HL.out; omega)).mono ?_
      rintro e wF ⟨rfl, F1, KF⟩
      obtain ⟨ps, ad, bv, hN, _, hP, _, hps⟩ := F1
      rw [HFL.out] at hps
      have HPS := Lib.hid hps
      obtain ⟨fr, xv, rfl, hfr⟩ := map_snoc (hps.trans List.reverse_cons)
      obtain ⟨gg, cap, hov⟩ := ownsRow_open hP.len (Nat.succ_pos _)
      subst hov
      obtain ⟨xa, xc, hxv⟩ : ∃ a c, xv = .slice a x.attrs.length c := own_slice (hP.2 (x, xv) (by simp))
      subst hxv
      obtain ⟨q0, q1, q2, q3⟩ := last_cells hP.len
      have k0 : wF.cell? ⟨b, 0, none⟩ = some (.slice (some ⟨gg, 0, none⟩) (fr.length + 1) cap) := hN.cells.1
      have hm : fr.length ≤ 1000000 := by
        have h1 := congrArg List.length hfr
        rw [List.length_map, List.length_reverse] at h1
        have h2 := HL.out
        rw [HFL.out, List.length_cons] at h2
        omega
      have hcap : fr.length ≤ cap := by
        rcases hP.len.2 with ⟨h', _⟩ | ⟨g', cap', cur, h', _, _, hn, _⟩
        · simp at h'
        · simp only [Value.slice.injEq] at h'
          omega
      have HCAP := Lib.hid hcap
      have i1 : (0 : Int) ≤ (fr.length : Int) := by omega
      have i2 : (fr.length : Int) < (fr.length : Int) + 1 := by omega
      have i3 : decide ((0 : Int) ≤ (fr.length : Int)) = true := decide_eq_true (by omega)
      have HP := Lib.hid hP
      have HFR := Lib.hid hfr
      have HK := Lib.hid (HKA.out.keep.trans KF.keep)
      clear hN hP hps KF hfr q1 q2 hcap
      go_wp2_with fail
      go_ret
      exact ⟨_, rfl, by rw [HR.out]; exact ⟨_, HPS.out, HP.out⟩, HK.out⟩
end Go.Proofs.YtadookafnfnaoaaGreatDoor
