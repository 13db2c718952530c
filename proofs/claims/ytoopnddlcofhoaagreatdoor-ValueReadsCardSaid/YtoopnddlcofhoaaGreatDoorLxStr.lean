/- What is proved: a slice of strings as it lies in memory. -/
import Derived.Test.YtoopnddlcofhoaaGreatDoorLxName
set_option linter.unusedVariables false
namespace Go.Proofs.YtoopnddlcofhoaaGreatDoor.Lx
open Go.RowKit

theorem heap_new1 (w : World) (o : Obj) : (w.alloc o).heap[w.heap.size]? = some o := heap_alloc_new w o
/-- a slice value, nil or not, reads as these strings -/
def StrA (w : World) (A : Option Addr) (l : List ByteArray) : Prop := 0 < l.length → ∃ b off, A = some ⟨b, off, none⟩ ∧ b < w.heap.size ∧ ∀ (i : Nat) (h : i < l.length), w.cell? ⟨b, off + i, none⟩ = some (.string l[i])
theorem StrA.below {w w' : World} {A : Option Addr} {l : List ByteArray} (h : StrA w A l) (hb : Below w.heap.size w w') : StrA w' A l := by
  intro hl
  obtain ⟨b, off, hA, hlt, hr⟩ := h hl
  exact ⟨b, off, hA, Nat.lt_of_lt_of_le hlt hb.size, fun i hi => (hb.cell (p := ⟨b, off + i, none⟩) hlt).trans (hr i hi)⟩
theorem StrA.drew {w : World} {A : Option Addr} {l : List ByteArray} (h : StrA w A l) (n : Nat) : StrA (w.drewN n) A l := h
theorem StrA.nil (w : World) (A : Option Addr) : StrA w A [] := fun h => absurd h (by simp)

def scells (l : List ByteArray) : List Value := l.map Value.string
end Go.Proofs.YtoopnddlcofhoaaGreatDoor.Lx
