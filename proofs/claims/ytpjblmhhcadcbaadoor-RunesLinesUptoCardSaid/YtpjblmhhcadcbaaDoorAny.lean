/- The calls' answers as plain functions of the arguments, and one contract a call. -/
import Derived.Test.YtpjblmhhcadcbaaDoorAwake
namespace Go.Proofs.YtpjblmhhcadcbaaDoor
open Go.RowKit Rn

def plN (l : List UInt8) (a : Int) : Int := match rd l with | none => 0 | some cs => if a < 0 ∨ (cs.length : Int) < a then 0 else ((txt (cs.take a.toNat)).length : Int)
def plE (l : List UInt8) (a : Int) : Int := match rd l with | none => 10 | some cs => if a < 0 ∨ (cs.length : Int) < a then 1 else 0
def cutS (l : List UInt8) (a b : Int) : ByteArray := match rd l with | none => ⟨#[]⟩ | some cs => if a < 0 ∨ b < a ∨ (cs.length : Int) < b then ⟨#[]⟩ else T ((cs.take b.toNat).drop a.toNat)
def cutE (l : List UInt8) (a b : Int) : Int := match rd l with | none => 10 | some cs => if a < 0 ∨ b < a ∨ (cs.length : Int) < b then 1 else 0
def spS (l : List UInt8) (a g : Int) (p : List UInt8) : ByteArray := match rd l, rd p with
  | some cs, some ds => if a < 0 ∨ (cs.length : Int) < a ∨ g < 0 ∨ (cs.length : Int) - a < g then ⟨#[]⟩ else if 20000 < (cs.length : Int) - g + (ds.length : Int) then ⟨#[]⟩ else T (cs.take a.toNat ++ (ds ++ cs.drop (a.toNat + g.toNat)))
  | _, _ => ⟨#[]⟩
def spE (l : List UInt8) (a g : Int) (p : List UInt8) : Int := match rd l, rd p with
  | some cs, some ds => if a < 0 ∨ (cs.length : Int) < a ∨ g < 0 ∨ (cs.length : Int) - a < g then 1 else if 20000 < (cs.length : Int) - g + (ds.length : Int) then 3 else 0
  | _, _ => 10
def ahN (l p : List UInt8) : Int := match rd l, rd p with | some cs, some ds => (pre cs ds : Nat) | _, _ => 0
def bhN (l p : List UInt8) : Int := match rd l, rd p with | some cs, some ds => (post cs ds : Nat) | _, _ => 0
def twoE (l p : List UInt8) : Int := match rd l, rd p with | some _, some _ => 0 | _, _ => 10

theorem place_any (s : ByteArray) (a : Int) (w : World) (hs : s.size ≤ maxLen) :
    Calls Tryd.prog 12 #[.string s, .int .i64 a] w fun e w' => e = .returned (.tuple #[.int .i64 (plN s.data.toList a), .int .i64 (plE s.data.toList a)]) ∧ Below w.heap.size w w' := by
  unfold plN plE
  cases h : rd s.data.toList with
  | none => exact place_none s a w h hs
  | some cs =>
    by_cases ha : a < 0 ∨ (cs.length : Int) < a
    · simp only [if_pos ha]; exact place_arg s cs a w h hs ha
    · simp only [if_neg ha]
      obtain ⟨h1, _, h3⟩ := rd_some h
      obtain ⟨n, rfl⟩ := Int.eq_ofNat_of_zero_le (show 0 ≤ a by omega)
      have := rd_T h
      subst this
      rw [Int.toNat_natCast]
      exact place_ok cs n w h1 h3 (by omega)
theorem cut_any (s : ByteArray) (a b : Int) (w : World) (hs : s.size ≤ maxLen) :
    Calls Tryd.prog 11 #[.string s, .int .i64 a, .int .i64 b] w fun e w' => e = .returned (.tuple #[.string (cutS s.data.toList a b), .int .i64 (cutE s.data.toList a b)]) ∧ Below w.heap.size w w' := by
  unfold cutS cutE
  cases h : rd s.data.toList with
  | none => exact cut_none s a b w h hs
  | some cs =>
    by_cases ha : a < 0 ∨ b < a ∨ (cs.length : Int) < b
    · simp only [if_pos ha]; exact cut_arg s cs a b w h hs ha
    · simp only [if_neg ha]
      obtain ⟨h1, _, h3⟩ := rd_some h
      obtain ⟨n, rfl⟩ := Int.eq_ofNat_of_zero_le (show 0 ≤ a by omega)
      obtain ⟨m, rfl⟩ := Int.eq_ofNat_of_zero_le (show 0 ≤ b by omega)
      have := rd_T h
      subst this
      rw [Int.toNat_natCast, Int.toNat_natCast]
      exact cut_ok cs n m w h1 h3 (by omega) (by omega)
theorem splice_any (s p : ByteArray) (a g : Int) (w : World) (hs : s.size ≤ maxLen) (hp : p.size ≤ maxLen) :
    Calls Tryd.prog 16 #[.string s, .int .i64 a, .int .i64 g, .string p] w fun e w' => e = .returned (.tuple #[.string (spS s.data.toList a g p.data.toList), .int .i64 (spE s.data.toList a g p.data.toList)]) ∧ Below w.heap.size w w' := by
  unfold spS spE
  cases h1 : rd s.data.toList with
  | none => exact splice_none s p a g w (Or.inl h1) hs hp
  | some cs =>
    cases h2 : rd p.data.toList with
    | none => exact splice_none s p a g w (Or.inr h2) hs hp
    | some ds =>
      obtain ⟨c1, _, c3⟩ := rd_some h1
      obtain ⟨d1, _, d3⟩ := rd_some h2
      by_cases ha : a < 0 ∨ (cs.length : Int) < a ∨ g < 0 ∨ (cs.length : Int) - a < g
      · simp only [if_pos ha]; exact splice_arg s p cs ds a g w h1 h2 hs hp c3 ha
      · by_cases hb : 20000 < (cs.length : Int) - g + (ds.length : Int)
        · simp only [if_neg ha, if_pos hb]
          exact splice_big s p cs ds a g w h1 h2 hs hp c3 d3 (by omega) (by omega) (by omega) (by omega) hb
        · simp only [if_neg ha, if_neg hb]
          obtain ⟨n, rfl⟩ := Int.eq_ofNat_of_zero_le (show 0 ≤ a by omega)
          obtain ⟨m, rfl⟩ := Int.eq_ofNat_of_zero_le (show 0 ≤ g by omega)
          have e1 := rd_T h1
          have e2 := rd_T h2
          subst e1; subst e2
          rw [Int.toNat_natCast, Int.toNat_natCast]
          exact splice_ok cs ds n m w c1 d1 c3 d3 (by omega) (by omega)
theorem Ahead_any (s p : ByteArray) (w : World) (hs : s.size ≤ maxLen) (hp : p.size ≤ maxLen) :
    Calls Tryd.prog 18 #[.string s, .string p] w fun e w' => e = .returned (.tuple #[.int .i64 (ahN s.data.toList p.data.toList), .int .i64 (twoE s.data.toList p.data.toList)]) ∧ Below w.heap.size w w' := by
  unfold ahN twoE
  cases h1 : rd s.data.toList with
  | none => exact Ahead_no s p w (Or.inl h1) hs hp
  | some cs =>
    cases h2 : rd p.data.toList with
    | none => exact Ahead_no s p w (Or.inr h2) hs hp
    | some ds =>
      obtain ⟨c1, _, c3⟩ := rd_some h1
      obtain ⟨d1, _, d3⟩ := rd_some h2
      have e1 := rd_T h1
      have e2 := rd_T h2
      subst e1; subst e2
      exact Ahead_ok cs ds w c1 d1 c3 d3
theorem Behind_any (s p : ByteArray) (w : World) (hs : s.size ≤ maxLen) (hp : p.size ≤ maxLen) :
    Calls Tryd.prog 19 #[.string s, .string p] w fun e w' => e = .returned (.tuple #[.int .i64 (bhN s.data.toList p.data.toList), .int .i64 (twoE s.data.toList p.data.toList)]) ∧ Below w.heap.size w w' := by
  unfold bhN twoE
  cases h1 : rd s.data.toList with
  | none => exact Behind_no s p w (Or.inl h1) hs hp
  | some cs =>
    cases h2 : rd p.data.toList with
    | none => exact Behind_no s p w (Or.inr h2) hs hp
    | some ds =>
      obtain ⟨c1, _, c3⟩ := rd_some h1
      obtain ⟨d1, _, d3⟩ := rd_some h2
      have e1 := rd_T h1
      have e2 := rd_T h2
      subst e1; subst e2
      exact Behind_ok cs ds w c1 d1 c3 d3
end Go.Proofs.YtpjblmhhcadcbaaDoor
