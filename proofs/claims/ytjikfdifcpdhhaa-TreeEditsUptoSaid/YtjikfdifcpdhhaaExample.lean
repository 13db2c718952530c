/- What is proved: the tree of the chapter's example, and what the functions say of it. -/
import Derived.Test.YtjikfdifcpdhhaaBare
import Derived.Test.YtjikfdifcpdhhaaValid
import Derived.Test.YtjikfdifcpdhhaaTreeFind
import Derived.Test.YtjikfdifcpdhhaaTreePath
import Derived.Test.YtjikfdifcpdhhaaTreeSame
import Derived.Test.YtjikfdifcpdhhaaIntsEq
set_option linter.unusedVariables false
namespace Go.Proofs.Ytjikfdifcpdhhaa
open Go.RowKit Go.Shelf

def exT (a b : Nat) : NT := .mk 29 ⟨#[43]⟩ 0 6 (some ⟨b, 0, none⟩) 2 [.mk 28 ⟨#[45]⟩ 0 2 (some ⟨a, 0, none⟩) 1 [.mk 20 ⟨#[120]⟩ 1 2 none 0 []], .mk 24 ⟨#[49]⟩ 5 6 none 0 []]
theorem ex_cnt (a b : Nat) : NT.cnt (exT a b) = 4 := rfl
theorem ex_lev (a b : Nat) : NT.lev (exT a b) = 3 := rfl
theorem ex_expr (a b : Nat) : shapedB exprB (exT a b) = true := by kernel_rfl
theorem ex_valid (a b : Nat) : shapedB (kindB [2]) (exT a b) = false := by kernel_rfl
theorem ex_path (a b : Nat) : pathAt (exT a b) 2 = [0, 0] := by kernel_rfl
theorem ex_isnum (a b : Nat) : isNum (exT a b) 2 = true := by kernel_rfl
theorem ex_num (a b : Nat) : NT.numZ (exT a b) [1] = some 3 := by kernel_rfl
theorem ex_has (a b : Nat) : NT.hasB (exT a b) 1 = true := by kernel_rfl
theorem ex_fnd (a b : Nat) : NT.fnd (exT a b) 1 = 2 := by kernel_rfl
theorem ex_list : listB 11 = true := by kernel_rfl
theorem ex_i64 (a b : Nat) : ∀ x ∈ NT.nds (exT a b), I64 x.kind := by
  have e : NT.nds (exT a b) = [exT a b, .mk 28 ⟨#[45]⟩ 0 2 (some ⟨a, 0, none⟩) 1 [.mk 20 ⟨#[120]⟩ 1 2 none 0 []], .mk 20 ⟨#[120]⟩ 1 2 none 0 [], .mk 24 ⟨#[49]⟩ 5 6 none 0 []] := rfl
  intro x hx
  rw [e] at hx
  simp only [List.mem_cons, List.not_mem_nil, or_false] at hx
  rcases hx with rfl | rfl | rfl | rfl <;> (unfold I64; kernel_rfl)
/-- a tree is the same as itself without places -/
theorem same_bare : ∀ n m : NT, NT.strip m = NT.bare n → NT.sameB n m = true ∧ NT.sameB m n = true := NT.ind fun n ih m h => by
  rw [NT.strip_eq, NT.bare_eq] at h
  simp only [NT.mk.injEq] at h
  obtain ⟨h1, h2, _, _, _, _, h3⟩ := h
  have hl : m.kids.length = n.kids.length := by have := congrArg List.length h3; simpa using this
  have hk : ∀ (i : Nat) (h : i < n.kids.length), NT.strip (m.kids[i]'(by omega)) = NT.bare n.kids[i] := fun i hi => by
    have := congrArg (fun l => l[i]?) h3
    simp only [List.getElem?_map] at this
    rw [List.getElem?_eq_getElem (by omega), List.getElem?_eq_getElem hi] at this
    simpa using this
  constructor
  · rw [NT.sameB_eq, h1, h2, (NT.samesB_iff n.kids m.kids hl.symm).2 (fun i hi => (ih _ (List.getElem_mem hi) _ (hk i hi)).1)]
    simp
  · rw [NT.sameB_eq, h1, h2, (NT.samesB_iff m.kids n.kids hl).2 (fun i hi => (ih _ (List.getElem_mem (by omega)) _ (hk i (by omega))).2)]
    simp

theorem example_any (w : World) : Calls Try.prog 41 #[] w fun e w' => ∃ a b, e = .returned (.agg #[.int .i64 29, .string ⟨#[43]⟩, .int .i64 0, .int .i64 6, .slice (some ⟨b, 0, none⟩) 2 2]) ∧ InT w'.heap.size w' (exT a b) ∧ Below w.heap.size w w' := by
  go_enter Try.func41, Try.ntmps41
  go_wp2_with (fail)
  have h0 : ((((w.alloc (.cells #[.int .i64 29, .string ⟨#[43]⟩, .int .i64 0, .int .i64 6, .slice (some ⟨w.heap.size + 1 + 1 + 1, 0, none⟩) 2 2] 24)).alloc (.cells #[.int .i64 20, .string ⟨#[120]⟩, .int .i64 1, .int .i64 2, .slice none 0 0] 24)).alloc (.cells #[.int .i64 28, .string ⟨#[45]⟩, .int .i64 0, .int .i64 2, .slice (some ⟨w.heap.size + 1, 0, none⟩) 1 1] 24)).alloc (.cells #[.int .i64 28, .string ⟨#[45]⟩, .int .i64 0, .int .i64 2, .slice (some ⟨w.heap.size + 1, 0, none⟩) 1 1, .int .i64 24, .string ⟨#[49]⟩, .int .i64 5, .int .i64 6, .slice none 0 0] 24)).heap[w.heap.size]? = some (.cells #[.int .i64 29, .string ⟨#[43]⟩, .int .i64 0, .int .i64 6, .slice (some ⟨w.heap.size + 1 + 1 + 1, 0, none⟩) 2 2] 24) := (heap_alloc_old _ _ (by simp <;> omega)).trans ((heap_alloc_old _ _ (by simp <;> omega)).trans ((heap_alloc_old _ _ (by simp <;> omega)).trans (heap_alloc_new w _)))
  have hA : ((((w.alloc (.cells #[.int .i64 29, .string ⟨#[43]⟩, .int .i64 0, .int .i64 6, .slice (some ⟨w.heap.size + 1 + 1 + 1, 0, none⟩) 2 2] 24)).alloc (.cells #[.int .i64 20, .string ⟨#[120]⟩, .int .i64 1, .int .i64 2, .slice none 0 0] 24)).alloc (.cells #[.int .i64 28, .string ⟨#[45]⟩, .int .i64 0, .int .i64 2, .slice (some ⟨w.heap.size + 1, 0, none⟩) 1 1] 24)).alloc (.cells #[.int .i64 28, .string ⟨#[45]⟩, .int .i64 0, .int .i64 2, .slice (some ⟨w.heap.size + 1, 0, none⟩) 1 1, .int .i64 24, .string ⟨#[49]⟩, .int .i64 5, .int .i64 6, .slice none 0 0] 24)).heap[w.heap.size + 1]? = some (.cells #[.int .i64 20, .string ⟨#[120]⟩, .int .i64 1, .int .i64 2, .slice none 0 0] 24) := by
    have h := heap_alloc_new (w.alloc (.cells #[.int .i64 29, .string ⟨#[43]⟩, .int .i64 0, .int .i64 6, .slice (some ⟨w.heap.size + 1 + 1 + 1, 0, none⟩) 2 2] 24)) (.cells #[.int .i64 20, .string ⟨#[120]⟩, .int .i64 1, .int .i64 2, .slice none 0 0] 24)
    rw [World.size_alloc] at h
    exact (heap_alloc_old _ _ (by simp)).trans ((heap_alloc_old _ _ (by simp)).trans h)
  have hB : ((((w.alloc (.cells #[.int .i64 29, .string ⟨#[43]⟩, .int .i64 0, .int .i64 6, .slice (some ⟨w.heap.size + 1 + 1 + 1, 0, none⟩) 2 2] 24)).alloc (.cells #[.int .i64 20, .string ⟨#[120]⟩, .int .i64 1, .int .i64 2, .slice none 0 0] 24)).alloc (.cells #[.int .i64 28, .string ⟨#[45]⟩, .int .i64 0, .int .i64 2, .slice (some ⟨w.heap.size + 1, 0, none⟩) 1 1] 24)).alloc (.cells #[.int .i64 28, .string ⟨#[45]⟩, .int .i64 0, .int .i64 2, .slice (some ⟨w.heap.size + 1, 0, none⟩) 1 1, .int .i64 24, .string ⟨#[49]⟩, .int .i64 5, .int .i64 6, .slice none 0 0] 24)).heap[w.heap.size + 1 + 1 + 1]? = some (.cells #[.int .i64 28, .string ⟨#[45]⟩, .int .i64 0, .int .i64 2, .slice (some ⟨w.heap.size + 1, 0, none⟩) 1 1, .int .i64 24, .string ⟨#[49]⟩, .int .i64 5, .int .i64 6, .slice none 0 0] 24) := by
    have h := heap_alloc_new (((w.alloc (.cells #[.int .i64 29, .string ⟨#[43]⟩, .int .i64 0, .int .i64 6, .slice (some ⟨w.heap.size + 1 + 1 + 1, 0, none⟩) 2 2] 24)).alloc (.cells #[.int .i64 20, .string ⟨#[120]⟩, .int .i64 1, .int .i64 2, .slice none 0 0] 24)).alloc (.cells #[.int .i64 28, .string ⟨#[45]⟩, .int .i64 0, .int .i64 2, .slice (some ⟨w.heap.size + 1, 0, none⟩) 1 1] 24)) (.cells #[.int .i64 28, .string ⟨#[45]⟩, .int .i64 0, .int .i64 2, .slice (some ⟨w.heap.size + 1, 0, none⟩) 1 1, .int .i64 24, .string ⟨#[49]⟩, .int .i64 5, .int .i64 6, .slice none 0 0] 24)
    rw [World.size_alloc, World.size_alloc, World.size_alloc] at h
    exact h
  have hz : ((((w.alloc (.cells #[.int .i64 29, .string ⟨#[43]⟩, .int .i64 0, .int .i64 6, .slice (some ⟨w.heap.size + 1 + 1 + 1, 0, none⟩) 2 2] 24)).alloc (.cells #[.int .i64 20, .string ⟨#[120]⟩, .int .i64 1, .int .i64 2, .slice none 0 0] 24)).alloc (.cells #[.int .i64 28, .string ⟨#[45]⟩, .int .i64 0, .int .i64 2, .slice (some ⟨w.heap.size + 1, 0, none⟩) 1 1] 24)).alloc (.cells #[.int .i64 28, .string ⟨#[45]⟩, .int .i64 0, .int .i64 2, .slice (some ⟨w.heap.size + 1, 0, none⟩) 1 1, .int .i64 24, .string ⟨#[49]⟩, .int .i64 5, .int .i64 6, .slice none 0 0] 24)).heap.size = w.heap.size + 4 := by simp
  have hb := ((((Below.refl w.heap.size w).alloc (Nat.le_refl _) (.cells #[.int .i64 29, .string ⟨#[43]⟩, .int .i64 0, .int .i64 6, .slice (some ⟨w.heap.size + 1 + 1 + 1, 0, none⟩) 2 2] 24)).alloc (by simp) (.cells #[.int .i64 20, .string ⟨#[120]⟩, .int .i64 1, .int .i64 2, .slice none 0 0] 24)).alloc (by simp; omega) (.cells #[.int .i64 28, .string ⟨#[45]⟩, .int .i64 0, .int .i64 2, .slice (some ⟨w.heap.size + 1, 0, none⟩) 1 1] 24)).alloc (by simp; omega) (.cells #[.int .i64 28, .string ⟨#[45]⟩, .int .i64 0, .int .i64 2, .slice (some ⟨w.heap.size + 1, 0, none⟩) 1 1, .int .i64 24, .string ⟨#[49]⟩, .int .i64 5, .int .i64 6, .slice none 0 0] 24)
  generalize ((((w.alloc (.cells #[.int .i64 29, .string ⟨#[43]⟩, .int .i64 0, .int .i64 6, .slice (some ⟨w.heap.size + 1 + 1 + 1, 0, none⟩) 2 2] 24)).alloc (.cells #[.int .i64 20, .string ⟨#[120]⟩, .int .i64 1, .int .i64 2, .slice none 0 0] 24)).alloc (.cells #[.int .i64 28, .string ⟨#[45]⟩, .int .i64 0, .int .i64 2, .slice (some ⟨w.heap.size + 1, 0, none⟩) 1 1] 24)).alloc (.cells #[.int .i64 28, .string ⟨#[45]⟩, .int .i64 0, .int .i64 2, .slice (some ⟨w.heap.size + 1, 0, none⟩) 1 1, .int .i64 24, .string ⟨#[49]⟩, .int .i64 5, .int .i64 6, .slice none 0 0] 24)) = V at *
  have r0 : V.cell? ⟨w.heap.size, 0, none⟩ = some (.int .i64 29) := Lib.cell_of_heap h0 0
  have r1 : V.cell? ⟨w.heap.size, 1, none⟩ = some (.string ⟨#[43]⟩) := Lib.cell_of_heap h0 1
  have r2 : V.cell? ⟨w.heap.size, 2, none⟩ = some (.int .i64 0) := Lib.cell_of_heap h0 2
  have r3 : V.cell? ⟨w.heap.size, 3, none⟩ = some (.int .i64 6) := Lib.cell_of_heap h0 3
  have r4 : V.cell? ⟨w.heap.size, 4, none⟩ = some (.slice (some ⟨w.heap.size + 1 + 1 + 1, 0, none⟩) 2 2) := Lib.cell_of_heap h0 4
  have hx : InT V.heap.size V (.mk 20 ⟨#[120]⟩ 1 2 none 0 []) := (inT_iff _).2 ⟨(fun h => absurd h (by simp [NT.kids])), by simp [NT.kids], by simp [NT.kids]⟩
  have hy : InT V.heap.size V (.mk 24 ⟨#[49]⟩ 5 6 none 0 []) := (inT_iff _).2 ⟨(fun h => absurd h (by simp [NT.kids])), by simp [NT.kids], by simp [NT.kids]⟩
  have hm : InT V.heap.size V (.mk 28 ⟨#[45]⟩ 0 2 (some ⟨w.heap.size + 1, 0, none⟩) 1 [.mk 20 ⟨#[120]⟩ 1 2 none 0 []]) := by
    refine (inT_iff _).2 ⟨fun _ => ⟨w.heap.size + 1, 0, rfl, by omega, fun i hi => ?_⟩, by simp [NT.kids, NT.c], by simpa [NT.kids] using hx⟩
    have e : i = 0 := by simp [NT.kids] at hi; omega
    subst e
    exact ⟨Lib.cell_of_heap hA 0, Lib.cell_of_heap hA 1, Lib.cell_of_heap hA 2, Lib.cell_of_heap hA 3, Lib.cell_of_heap hA 4⟩
  have ht : InT V.heap.size V (exT (w.heap.size + 1) (w.heap.size + 1 + 1 + 1)) := by
    refine (inT_iff _).2 ⟨fun _ => ⟨w.heap.size + 1 + 1 + 1, 0, rfl, by omega, fun i hi => ?_⟩, by simp [exT, NT.kids, NT.c], by simpa [exT, NT.kids] using ⟨hm, hy⟩⟩
    have e : i = 0 ∨ i = 1 := by simp [exT, NT.kids] at hi; omega
    rcases e with rfl | rfl
    · exact ⟨Lib.cell_of_heap hB 0, Lib.cell_of_heap hB 1, Lib.cell_of_heap hB 2, Lib.cell_of_heap hB 3, Lib.cell_of_heap hB 4⟩
    · exact ⟨Lib.cell_of_heap hB 5, Lib.cell_of_heap hB 6, Lib.cell_of_heap hB 7, Lib.cell_of_heap hB 8, Lib.cell_of_heap hB 9⟩
  exact bodyPost_ret (v := .agg #[.int .i64 29, .string ⟨#[43]⟩, .int .i64 0, .int .i64 6, .slice (some ⟨w.heap.size + 1 + 1 + 1, 0, none⟩) 2 2]) (by simp [results, Try.results41, go_sem, r0, r1, r2, r3, r4]) rfl ⟨w.heap.size + 1, w.heap.size + 1 + 1 + 1, rfl, ht, hb⟩
end Go.Proofs.Ytjikfdifcpdhhaa
