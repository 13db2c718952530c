/- What is proved: an argument that is a slice of numbers, opened to its cells. -/
import Derived.Test.YtlaiahiphghggaaOpenNode
import Derived.Test.YtlaiahiphghggaaTreeNum
import Derived.ChangeSlices
set_option linter.unusedVariables false
namespace Go.Proofs.Ytlaiahiphghggaa
open Go.RowKit Go.Joins Go.ChangeShapes Go.WideShapes Go.Deep

theorem bulk_len {H : Type} (l : List (DataW H)) : l.length ≤ Rows.uptoBulkAll l := by
  induction l with
  | nil => simp
  | cons x r ih => have := bulk_one x; simp only [Rows.uptoBulkAll, List.length_cons]; omega
theorem intCells : Try.prog.cellsOf 3 = 1 := by kernel_rfl
set_option maxRecDepth 100000 in
theorem open_path {H : Type} {enc : TypeId × Value → H} {W : World} {base : Nat} {v : Value} {d : DataW H} {p : List MemPlace}
    (hv : Value.okWide Try.prog W .any base 29 v) (h : DataW.Trod enc Try.prog W 0 (fun _ => true) true 29 v d p) :
    ∃ (A : Option Addr) (c : Nat) (l : List Int), v = .slice A l.length c ∧ IRow W.heap.size W A l ∧ l.length + 1 ≤ Rows.uptoBulk d := by
  obtain ⟨a, len, cap, rfl⟩ := okWide_slice Try.underlying29 hv
  obtain ⟨fuel, hf⟩ := h
  rcases open_ints Try.underlying29 Try.underlying3 intCells hf with ⟨hcs, hx⟩ | ⟨a', len', cap', zs, hcs, _, hl, hm, hlen, hx, hcell, _⟩
  · simp [Value.cells] at hcs
    obtain ⟨rfl, rfl, rfl⟩ := hcs
    exact ⟨none, 0, [], rfl, fun h0 => absurd h0 (by simp), by have := bulk_one d; simp; omega⟩
  · simp [Value.cells] at hcs
    obtain ⟨rfl, rfl, rfl⟩ := hcs
    have hle : len ≤ zs.length := by rw [hlen]; simp; exact hl
    have hll : (zs.take len).length = len := by rw [List.length_take]; omega
    refine ⟨some a', cap, zs.take len, by rw [hll], fun h0 => ?_, ?_⟩
    · rw [hll] at h0
      obtain ⟨bk, off, spot⟩ := a'
      have h1 := hcell 0 (by omega)
      have hspot : spot = none := by simpa [Addr.add] using World.cell?_spot h1
      subst hspot
      have hbk : bk < W.heap.size := World.block_lt_of_cell? W _ (by simpa [Addr.add] using h1)
      refine ⟨bk, off, rfl, hbk, fun i hil => ?_⟩
      have h2 := hcell i (by rw [hll] at hil; omega)
      rw [Go.WideShapes.add_plain] at h2
      rw [h2]
      have : i < zs.length := by rw [hll] at hil; omega
      simp [List.getD_eq_getElem?_getD, List.getElem?_eq_getElem this]
    · simp only [Prod.mk.injEq] at hx
      rw [hx.1, hll]
      have hb := bulk_slice (H := H) (lits .i64 (zs.take len)) (lits .i64 (zs.drop len))
      have hc := bulk_len (H := H) (lits .i64 (zs.take len))
      have he : (lits (H := H) .i64 (zs.take len)).length = len := by unfold lits; rw [List.length_map, hll]
      omega
end Go.Proofs.Ytlaiahiphghggaa
