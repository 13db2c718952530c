/- What is proved: the example of the laws of constraints. -/
import Derived.Test.YtmamajillkajoaaDoorCoLists
set_option linter.unusedVariables false
namespace Go.Proofs.YtmamajillkajoaaDoor
open Go.RowKit Go.Shelf

/-- the cells of constraints -/
def ccs : List Con → List Value
  | [] => []
  | x :: xs => .int .i64 x.kind :: .int .i64 x.a :: .int .i64 x.b :: .int .i64 x.mark.kind :: .int .i64 x.mark.len :: .string x.mark.nm :: .int .i64 x.lo :: .int .i64 x.hi :: ccs xs
theorem ccs_get : ∀ (l : List Con) (i : Nat) (h : i < l.length), (ccs l)[i * 8]? = some (.int .i64 l[i].kind) ∧ (ccs l)[i * 8 + 1]? = some (.int .i64 l[i].a) ∧ (ccs l)[i * 8 + 2]? = some (.int .i64 l[i].b) ∧ (ccs l)[i * 8 + 3]? = some (.int .i64 l[i].mark.kind) ∧ (ccs l)[i * 8 + 4]? = some (.int .i64 l[i].mark.len) ∧ (ccs l)[i * 8 + 5]? = some (.string l[i].mark.nm) ∧ (ccs l)[i * 8 + 6]? = some (.int .i64 l[i].lo) ∧ (ccs l)[i * 8 + 7]? = some (.int .i64 l[i].hi)
  | [], i, h => by simp at h
  | x :: xs, 0, _ => by simp [ccs]
  | x :: xs, i + 1, h => by
    have h' := ccs_get xs i (by simpa using h)
    rw [show (i + 1) * 8 = i * 8 + 8 by omega]
    simpa [ccs] using h'
theorem crow_of {w : World} {b : Nat} {cs : Array Value} {l : List Con} (hb : w.heap[b]? = some (.cells cs 41 (0, 0))) (hc : cs.toList = ccs l) : CRow w.heap.size w (some ⟨b, 0, none⟩) l := fun _ => by
  refine ⟨b, 0, rfl, (Array.getElem?_eq_some_iff.1 hb).1, fun i hi => ?_⟩
  obtain ⟨h0, h1, h2, h3, h4, h5, h6, h7⟩ := ccs_get l i hi
  rw [← hc, Array.getElem?_toList] at h0 h1 h2 h3 h4 h5 h6 h7
  rw [Nat.zero_add]
  exact ⟨(Lib.cell_of_heap hb _).trans h0, (Lib.cell_of_heap hb _).trans h1, (Lib.cell_of_heap hb _).trans h2, (Lib.cell_of_heap hb _).trans h3, (Lib.cell_of_heap hb _).trans h4, (Lib.cell_of_heap hb _).trans h5, (Lib.cell_of_heap hb _).trans h6, (Lib.cell_of_heap hb _).trans h7⟩
set_option maxRecDepth 100000 in
set_option maxHeartbeats 1000000 in
theorem example_any (w : World) : Calls Tryd.prog 13 #[] w fun e w' => e = .returned (.slice (some ⟨w.heap.size, 0, none⟩) 5 5) ∧ (∃ cs, w'.heap[w.heap.size]? = some (.cells cs 41 (0, 0)) ∧ cs.toList = ccs exL) ∧ Below w.heap.size w w' := by
  go_enter Tryd.func13, Tryd.ntmps13
  go_wp2_with (fail)
  go_ret
  exact ⟨rfl, ⟨_, heap_alloc_new w _, rfl⟩, (Below.refl w.heap.size w).alloc (Nat.le_refl _) _⟩
end Go.Proofs.YtmamajillkajoaaDoor
