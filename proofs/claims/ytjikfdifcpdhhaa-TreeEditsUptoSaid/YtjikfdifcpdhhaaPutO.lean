/- What is proved: a node stored into a row. -/
import Derived.Test.YtjikfdifcpdhhaaSetK
set_option linter.unusedVariables false
namespace Go.Proofs.Ytjikfdifcpdhhaa
open Go.RowKit

abbrev putO (w : World) (g o : Nat) (x : NT) : World := ((((w.setCell ⟨g, o, none⟩ (.int .i64 x.kind)).setCell ⟨g, o + 1, none⟩ (.string x.text)).setCell ⟨g, o + 2, none⟩ (.int .i64 x.lo)).setCell ⟨g, o + 3, none⟩ (.int .i64 x.hi)).setCell ⟨g, o + 4, none⟩ (.slice x.A x.kids.length x.c)
theorem putO_cells {w : World} {g o : Nat} {y : NT} (h : Cells5 w g o y) (x : NT) : Cells5 (putO w g o x) g o x := by
  obtain ⟨h0, h1, h2, h3, h4⟩ := h
  have far : ∀ (W : World) (a b : Nat) (v : Value), a ≠ b → (W.setCell ⟨g, b, none⟩ v).cell? ⟨g, a, none⟩ = W.cell? ⟨g, a, none⟩ := fun W a b v hab => cell_set_far W (.inr hab) v
  have same : ∀ (W : World) (a : Nat) (v u : Value), W.cell? ⟨g, a, none⟩ = some u → (W.setCell ⟨g, a, none⟩ v).cell? ⟨g, a, none⟩ = some v := fun W a v u hu => World.cell?_setCell_same' W _ _ (by rw [hu]; rfl)
  refine ⟨?_, ?_, ?_, ?_, ?_⟩
  · rw [far _ _ _ _ (by omega), far _ _ _ _ (by omega), far _ _ _ _ (by omega), far _ _ _ _ (by omega)]; exact same _ _ _ _ h0
  · rw [far _ _ _ _ (by omega), far _ _ _ _ (by omega), far _ _ _ _ (by omega)]; exact same _ _ _ _ (by rw [far _ _ _ _ (by omega)]; exact h1)
  · rw [far _ _ _ _ (by omega), far _ _ _ _ (by omega)]; exact same _ _ _ _ (by rw [far _ _ _ _ (by omega), far _ _ _ _ (by omega)]; exact h2)
  · rw [far _ _ _ _ (by omega)]; exact same _ _ _ _ (by rw [far _ _ _ _ (by omega), far _ _ _ _ (by omega), far _ _ _ _ (by omega)]; exact h3)
  · exact same _ _ _ _ (by rw [far _ _ _ _ (by omega), far _ _ _ _ (by omega), far _ _ _ _ (by omega), far _ _ _ _ (by omega)]; exact h4)
theorem putO_far {w : World} {g o b q : Nat} {y : NT} (h : Cells5 w b q y) (x : NT) (hf : b ≠ g ∨ q + 5 ≤ o ∨ o + 5 ≤ q) : Cells5 (putO w g o x) b q y := by
  have hs : ∀ r, r < 5 → b ≠ g ∨ ∀ j, j < 5 → q + j ≠ o + r := fun r hr => hf.imp id (fun h j hj => by omega)
  exact cells5_far (cells5_far (cells5_far (cells5_far (cells5_far h (hs 0 (by omega)) _) (hs 1 (by omega)) _) (hs 2 (by omega)) _) (hs 3 (by omega)) _) (hs 4 (by omega)) _
theorem putO_block (w : World) {g o b : Nat} (x : NT) (hb : b ≠ g) : (putO w g o x).heap[b]? = w.heap[b]? := by
  have e : ∀ (X : World) (q : Nat) (v : Value), (X.setCell ⟨g, q, none⟩ v).heap[b]? = X.heap[b]? := fun X q v => Below.heap_setCell X ⟨g, q, none⟩ v b (by show b ≠ g; exact hb)
  unfold putO
  rw [e, e, e, e, e]
theorem putO_below {B : Nat} {w W : World} {g : Nat} (h : Below B w W) (hg : B ≤ g) (o : Nat) (x : NT) : Below B w (putO W g o x) :=
  ((((h.setCell (p := ⟨g, o, none⟩) hg _).setCell (p := ⟨g, o + 1, none⟩) hg _).setCell (p := ⟨g, o + 2, none⟩) hg _).setCell (p := ⟨g, o + 3, none⟩) hg _).setCell (p := ⟨g, o + 4, none⟩) hg _
theorem putO_size (w : World) (g o : Nat) (x : NT) : (putO w g o x).heap.size = w.heap.size := by simp [World.setCell]
theorem frozen_set (w : World) (g q b j : Nat) (v : Value) (h : w.frozen? ⟨b, j, none⟩ = false) : (w.setCell ⟨g, q, none⟩ v).frozen? ⟨b, j, none⟩ = false := by
  by_cases hb : b = g
  · subst hb
    unfold World.frozen? at *
    simp only [World.setCell, Array.getElem?_modify]
    cases hw : w.heap[b]? with
    | none => simp
    | some x => rw [hw] at h; cases x <;> simp_all
  · have e := Below.heap_setCell w ⟨g, q, none⟩ v b (by show b ≠ g; exact hb)
    unfold World.frozen? at *
    simp only [e]
    exact h
theorem Thaw.putO {w : World} {b : Nat} (h : Thaw w b) (g o : Nat) (x : NT) : Thaw (putO w g o x) b := fun j => frozen_set _ _ _ _ _ _ (frozen_set _ _ _ _ _ _ (frozen_set _ _ _ _ _ _ (frozen_set _ _ _ _ _ _ (frozen_set _ _ _ _ _ _ (h j)))))
/-- a row in which one node is stored -/
theorem row_put {w : World} {g off : Nat} {l : List NT} (h : ∀ (i : Nat) (hi : i < l.length), Cells5 w g (off + i * 5) l[i]) {k : Nat} (hk : k < l.length) (x : NT) : ∀ (i : Nat) (hi : i < (l.set k x).length), Cells5 (putO w g (off + k * 5) x) g (off + i * 5) (l.set k x)[i] := fun i hi => by
  have hi' : i < l.length := by simpa using hi
  by_cases e : k = i
  · subst e
    rw [List.getElem_set_self]
    exact putO_cells (h k hk) x
  · rw [List.getElem_set_ne e]
    exact putO_far (h i hi') x (.inr (by omega))
end Go.Proofs.Ytjikfdifcpdhhaa
