import Derived.Test.YtchceolbbkhnnaaGJ3
import Derived.Test.YtchceolbbkhnnaaGR1
namespace Go.Proofs.Ytchceolbbkhnnaa
open Go.RowKit Rn Ch
open Cp (Atm opA Bal OkX)
open An (fullA)
theorem E_size8 (c : Nat) : (E c).size ≤ 4 := by
 have h1 : (E c).size = (enc c).length := List.size_toArray; rw [h1]; unfold enc
 repeat' split
 all_goals simp
theorem small_op {o : OpD} (h : opE o = 0) (hn : 0 ≤ o.n) (h1 : o.n ≤ 1) (ht : o.text.size ≤ 4) : VOp o := by
 have hk := opE_kind h; refine ⟨hn, by omega, by omega, hk, ?_⟩; rcases hk with k | k | k
 ·exact small_chg ((opE_keep k).1 h).2.2
 ·exact small_rgt ((opE_put k).1 h).2.2.2
 ·have := ((opE_cut k).1 h).2.2
  rw [List.length_eq_zero_iff.1 (show o.attrs.length = 0 by omega)]; exact small_chg rfl
theorem region_merge6 {P : Program} {c : Code} {Q : Exit → Act → World → Prop} {a : Act} {w : World} (S : Act → Act → World → Prop) (h1 : Code.wp P c (fun e a' w' => match e with | .normal => S a a' w' | _ => False) a w) (h2 : ∀ a' w', S a a' w' → Q .normal a' w') : Code.wp P c Q a w :=
 Code.wp_mono (fun e a' w' h => by
  cases e with
  | normal => exact h2 a' w' h
  | _ => exact h.elim) h1
theorem vop_opA {X : List Atm} (h : OkX X) : ∀ o ∈ X.map opA, VOp o := by
 have hE := (Cp.atms_opA h).2; intro o ho; obtain ⟨x, _, rfl⟩ := List.mem_map.1 ho; refine small_op (hE _ ho) ?_ ?_ ?_ <;> cases x <;> simp [opA]
 all_goals first | exact Nat.zero_le _ | (rw [T_one]; exact E_size8 _)
end Go.Proofs.Ytchceolbbkhnnaa
