/- What is proved: small facts on trees in memory, for: the reference's Count and Levels return what the plain functions say. -/
import Derived.Test.YtnpcfmoiiecadaaDoorNt
import Derived.WalkKit
import Derived.OwnWalk
import Derived.Outline
import Derived.WalkLawsBesides
import Derived.IntWalk
import Derived.Lib.Hide
import Derived.LoopTactic
import Derived.Deep.QuietTactic
import Derived.BigQuiet
set_option linter.unusedVariables false
namespace Go.Proofs.YtnpcfmoiiecadaaDoor
open Go.RowKit

theorem InT.later {w W : World} {n : NT} (h : InT w.heap.size w n) (hb : Below w.heap.size w W) : InT W.heap.size W n := InT.mono hb.size n (InT.below hb n h)
theorem InT.kidAt {n₀ : Nat} {w : World} {n : NT} (h : InT n₀ w n) {i : Nat} (hi : i < n.kids.length) : InT n₀ w n.kids[i] := h.kid (List.getElem_mem hi)
theorem box_cells (w : World) (a b c d e : Value) (t : TypeId) : (w.alloc (.cells #[a, b, c, d, e] t)).cell? ⟨w.heap.size, 0, none⟩ = some a ∧ (w.alloc (.cells #[a, b, c, d, e] t)).cell? ⟨w.heap.size, 1, none⟩ = some b ∧ (w.alloc (.cells #[a, b, c, d, e] t)).cell? ⟨w.heap.size, 2, none⟩ = some c ∧ (w.alloc (.cells #[a, b, c, d, e] t)).cell? ⟨w.heap.size, 3, none⟩ = some d ∧ (w.alloc (.cells #[a, b, c, d, e] t)).cell? ⟨w.heap.size, 4, none⟩ = some e := by
  have h : (w.alloc (.cells #[a, b, c, d, e] t)).heap[w.heap.size]? = some (.cells #[a, b, c, d, e] t (0, 0)) := heap_alloc_new w _
  exact ⟨Lib.cell_of_heap h 0, Lib.cell_of_heap h 1, Lib.cell_of_heap h 2, Lib.cell_of_heap h 3, Lib.cell_of_heap h 4⟩
theorem ret_int {k : IntKind} {a b : Int} (h : a = b) : Ending.returned (.int k a) = .returned (.int k b) := by rw [h]

end Go.Proofs.YtnpcfmoiiecadaaDoor
