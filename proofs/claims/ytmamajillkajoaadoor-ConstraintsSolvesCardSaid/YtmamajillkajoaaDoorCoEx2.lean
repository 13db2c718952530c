/- What is proved: what Solve gives for the laws' examples. -/
import Derived.Test.YtmamajillkajoaaDoorCoEx
set_option linter.unusedVariables false
namespace Go.Proofs.YtmamajillkajoaaDoor
open Go.RowKit Go.Shelf

theorem exL_pos : exL.all (posB 3) = true := by kernel_rfl
theorem exM_pos : exM.all (posB 3) = true := by kernel_rfl
theorem exL_sum : (decide (((3 : Nat) : Int) + (mkSum exL (clss exL 3 3) : Int) < 1000000000)) = true := by kernel_rfl
theorem exM_sum : (decide (((3 : Nat) : Int) + (mkSum exM (clss exM 3 3) : Int) < 1000000000)) = true := by kernel_rfl
theorem exL_ty : (tyL exL (clss exL 3 3) 0 = noT) ∧ (tyL exL (clss exL 3 3) 1 = noT) ∧ (tyL exL (clss exL 3 3) 2 = noT) := ⟨by kernel_rfl, by kernel_rfl, by kernel_rfl⟩
theorem exM_ty : (tyL exM (clss exM 3 3) 0 = ⟨1, 0, ⟨#[]⟩⟩) ∧ (tyL exM (clss exM 3 3) 1 = ⟨1, 0, ⟨#[]⟩⟩) ∧ (tyL exM (clss exM 3 3) 2 = ⟨1, 0, ⟨#[]⟩⟩) := ⟨by kernel_rfl, by kernel_rfl, by kernel_rfl⟩
theorem exL_ok : ∀ x ∈ exL, ConOk x := by
  intro x hx
  simp only [exL, List.mem_cons, List.not_mem_nil, or_false] at hx
  rcases hx with rfl | rfl | rfl | rfl | rfl <;> (constructor <;> first | (unfold I64o; decide) | exact Nat.zero_le _)
theorem exM_ok : ∀ x ∈ exM, ConOk x := by
  intro x hx
  simp only [exM, List.mem_cons, List.not_mem_nil, or_false] at hx
  rcases hx with rfl | rfl | rfl | rfl <;> (constructor <;> first | (unfold I64o; decide) | exact Nat.zero_le _)
/-- the types, read -/
theorem TArr.row {w : World} {tb n : Nat} {f : Nat → TyV} (h : TArr w tb n f) (l : List TyV) (hl : l.length = n) (he : ∀ (i : Nat) (hi : i < l.length), l[i] = f i) : TRow w.heap.size w (some ⟨tb, 0, none⟩) l := fun _ => by
  have h0 := h
  obtain ⟨cs, q1, _, _⟩ := h0
  refine ⟨tb, 0, rfl, (Array.getElem?_eq_some_iff.1 q1).1, fun i hi => ?_⟩
  obtain ⟨a0, a1, a2⟩ := h.cells i (by omega)
  rw [he i hi, Nat.zero_add]
  exact ⟨a0, a1, a2⟩
/-- the chains, read -/
theorem ISl.irow {g : Gp} {w : World} {X : Option Addr} {l : List Nat} (h : ISl g w X l) : IRow w.heap.size w X l := fun h0 => by
  obtain ⟨b, h1, h2, h3⟩ := h.cells h0
  exact ⟨b, 0, h1, h2, fun i hi => by rw [Nat.zero_add]; exact h3 i hi⟩
theorem LOwn.lrow {g : Gp} {w : World} {B c : Nat} {X : Option Addr} {L : List (List Nat)} (h : LOwn g w B (.slice X L.length c) L) : LRow w X L := fun h0 => by
  obtain ⟨rb, cs, Xc, cc, h1, h2, h3, h4, h5⟩ := h.get 0 h0
  refine ⟨rb, 0, h1, (Array.getElem?_eq_some_iff.1 h3).1, fun i hi => ?_⟩
  obtain ⟨rb', cs', Xc', cc', k1, k2, k3, k4, k5, k6⟩ := h.get i hi
  have e : rb' = rb := by rw [h1] at k1; simpa using k1.symm
  subst e
  exact ⟨Xc', cc', by rw [Nat.zero_add]; exact (Lib.cell_of_heap k3 _).trans k4, k5.irow, k6⟩
end Go.Proofs.YtmamajillkajoaaDoor
