/- The calls' answers as plain functions of the arguments, and one contract a call. -/
import Derived.Test.YtpjblmhhcadcbabDoorAwake
namespace Go.Proofs.YtpjblmhhcadcbabDoor
open Go.RowKit Rn

def spS (l : List UInt8) (a g : Int) (p : List UInt8) : ByteArray := match rd l, rd p with
  | some cs, some ds => if a < 0 ∨ (cs.length : Int) < a ∨ g < 0 ∨ (cs.length : Int) - a < g then ⟨#[]⟩ else if 20000 < (cs.length : Int) - g + (ds.length : Int) then ⟨#[]⟩ else T (cs.take a.toNat ++ (ds ++ cs.drop (a.toNat + g.toNat)))
  | _, _ => ⟨#[]⟩
def spE (l : List UInt8) (a g : Int) (p : List UInt8) : Int := match rd l, rd p with
  | some cs, some ds => if a < 0 ∨ (cs.length : Int) < a ∨ g < 0 ∨ (cs.length : Int) - a < g then 1 else if 20000 < (cs.length : Int) - g + (ds.length : Int) then 3 else 0
  | _, _ => 10
def ahN (l p : List UInt8) : Int := match rd l, rd p with | some cs, some ds => (pre cs ds : Nat) | _, _ => 0
def bhN (l p : List UInt8) : Int := match rd l, rd p with | some cs, some ds => (post cs ds : Nat) | _, _ => 0
def twoE (l p : List UInt8) : Int := match rd l, rd p with | some _, some _ => 0 | _, _ => 10

theorem splice_any (s p : ByteArray) (a g : Int) (w : World) (hs : s.size ≤ maxLen) (hp : p.size ≤ maxLen) :
    Calls Tryd.prog 10 #[.string s, .int .i64 a, .int .i64 g, .string p] w fun e w' => e = .returned (.tuple #[.string (spS s.data.toList a g p.data.toList), .int .i64 (spE s.data.toList a g p.data.toList)]) ∧ Below w.heap.size w w' := by
  unfold spS spE
  cases h1 : rd s.data.toList with
  | none => exact splice_none s p a g w (Or.inl h1) hs hp
  | some cs =>
    cases h2 : rd p.data.toList with
    | none => exact splice_none s p a g w (Or.inr h2) hs hp
    | some ds =>
      obtain ⟨c1, _, c3⟩ := rd_some h1
      obtain ⟨d1, _, d3⟩ := rd_some h2
      by_cases ha : a < 0 ∨ (cs.length : Int) < a ∨ g < 0 ∨ (cs.length : Int) - a < g
      · simp only [if_pos ha]; exact splice_arg s p cs ds a g w h1 h2 hs hp c3 ha
      · by_cases hb : 20000 < (cs.length : Int) - g + (ds.length : Int)
        · simp only [if_neg ha, if_pos hb]
          exact splice_big s p cs ds a g w h1 h2 hs hp c3 d3 (by omega) (by omega) (by omega) (by omega) hb
        · simp only [if_neg ha, if_neg hb]
          obtain ⟨n, rfl⟩ := Int.eq_ofNat_of_zero_le (show 0 ≤ a by omega)
          obtain ⟨m, rfl⟩ := Int.eq_ofNat_of_zero_le (show 0 ≤ g by omega)
          have e1 := rd_T h1
          have e2 := rd_T h2
          subst e1; subst e2
          rw [Int.toNat_natCast, Int.toNat_natCast]
          exact splice_ok cs ds n m w c1 d1 c3 d3 (by omega) (by omega)
theorem Ahead_any (s p : ByteArray) (w : World) (hs : s.size ≤ maxLen) (hp : p.size ≤ maxLen) :
    Calls Tryd.prog 7 #[.string s, .string p] w fun e w' => e = .returned (.tuple #[.int .i64 (ahN s.data.toList p.data.toList), .int .i64 (twoE s.data.toList p.data.toList)]) ∧ Below w.heap.size w w' := by
  unfold ahN twoE
  cases h1 : rd s.data.toList with
  | none => exact Ahead_no s p w (Or.inl h1) hs hp
  | some cs =>
    cases h2 : rd p.data.toList with
    | none => exact Ahead_no s p w (Or.inr h2) hs hp
    | some ds =>
      obtain ⟨c1, _, c3⟩ := rd_some h1
      obtain ⟨d1, _, d3⟩ := rd_some h2
      have e1 := rd_T h1
      have e2 := rd_T h2
      subst e1; subst e2
      exact Ahead_ok cs ds w c1 d1 c3 d3
theorem Behind_any (s p : ByteArray) (w : World) (hs : s.size ≤ maxLen) (hp : p.size ≤ maxLen) :
    Calls Tryd.prog 8 #[.string s, .string p] w fun e w' => e = .returned (.tuple #[.int .i64 (bhN s.data.toList p.data.toList), .int .i64 (twoE s.data.toList p.data.toList)]) ∧ Below w.heap.size w w' := by
  unfold bhN twoE
  cases h1 : rd s.data.toList with
  | none => exact Behind_no s p w (Or.inl h1) hs hp
  | some cs =>
    cases h2 : rd p.data.toList with
    | none => exact Behind_no s p w (Or.inr h2) hs hp
    | some ds =>
      obtain ⟨c1, _, c3⟩ := rd_some h1
      obtain ⟨d1, _, d3⟩ := rd_some h2
      have e1 := rd_T h1
      have e2 := rd_T h2
      subst e1; subst e2
      exact Behind_ok cs ds w c1 d1 c3 d3
end Go.Proofs.YtpjblmhhcadcbabDoor
