/- A reading's bulk: a row's length is within it. -/
import Derived.Test.YtigdmgpejmfceaaRows
import Derived.ChangeMaps
namespace Go.Proofs.Ytigdmgpejmfceaa

theorem bulk_pos {H : Type} (d : DataW H) : 1 ≤ Rows.uptoBulk d := by
  cases d with
  | lit l => cases l <;> simp [Rows.uptoBulk]
  | nil => simp [Rows.uptoBulk]
  | ptr d => simp [Rows.uptoBulk]
  | slice a b => simp [Rows.uptoBulk]
  | agg p => simp [Rows.uptoBulk]
  | iface _ d => simp [Rows.uptoBulk]
  | map e => simp [Rows.uptoBulk]
  | held _ => simp [Rows.uptoBulk]
theorem bulk_len {H : Type} (l : List (DataW H)) : l.length ≤ Rows.uptoBulkAll l := by
  induction l with
  | nil => simp [Rows.uptoBulkAll]
  | cons x r ih =>
    rw [Rows.uptoBulkAll, List.length_cons]
    have := bulk_pos x
    omega
end Go.Proofs.Ytigdmgpejmfceaa
