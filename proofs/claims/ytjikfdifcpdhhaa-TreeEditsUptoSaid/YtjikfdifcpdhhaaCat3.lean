/- What is proved: three slices of nodes, put together; slices of a slice. -/
import Derived.Test.YtjikfdifcpdhhaaConcat
set_option linter.unusedVariables false
namespace Go.Proofs.Ytjikfdifcpdhhaa
open Go.RowKit

theorem cat3 (w6 : World) (A1 A2 A3 : Option Addr) (c1 c2 c3 : Nat) (l1 l2 l3 : List NT) (n1 n2 n3 : Nat) (h1 : l1.length = n1) (h2 : l2.length = n2) (h3 : l3.length = n3) (r1 : Row w6.heap.size w6 A1 l1) (r2 : Row w6.heap.size w6 A2 l2) (r3 : Row w6.heap.size w6 A3 l3) (htot : n1 + n2 + n3 ≤ 1000000000) :
    Calls Try.prog 54 #[.slice (some ⟨w6.heap.size, 0, none⟩) 3 3] (w6.alloc (.cells #[.slice A1 n1 c1, .slice A2 n2 c2, .slice A3 n3 c3] 22)) fun e w' => ∃ A c l, Hid (l = l1 ++ (l2 ++ l3)) ∧ e = .returned (.slice A l.length c) ∧ l.length ≤ c ∧ RowS (fun b => w6.heap.size + 1 ≤ b ∧ b < w'.heap.size) w' A l ∧ Below w6.heap.size w6 w' := by
  subst h1
  subst h2
  subst h3
  have hba := (Below.refl w6.heap.size w6).alloc (Nat.le_refl _) (.cells #[.slice A1 l1.length c1, .slice A2 l2.length c2, .slice A3 l3.length c3] 22)
  have hnew := heap_alloc_new w6 (.cells #[.slice A1 l1.length c1, .slice A2 l2.length c2, .slice A3 l3.length c3] 22)
  have hz : (w6.alloc (.cells #[.slice A1 l1.length c1, .slice A2 l2.length c2, .slice A3 l3.length c3] 22)).heap.size = w6.heap.size + 1 := by simp
  have hfl : flat [⟨A1, c1, l1⟩, ⟨A2, c2, l2⟩, ⟨A3, c3, l3⟩] = l1 ++ (l2 ++ l3) := by simp [flat]
  have hlen : (flat [⟨A1, c1, l1⟩, ⟨A2, c2, l2⟩, ⟨A3, c3, l3⟩]).length ≤ 1000000000 := by rw [hfl]; simp; omega
  have H := concat_any w6.heap.size [⟨A1, c1, l1⟩, ⟨A2, c2, l2⟩, ⟨A3, c3, l3⟩] (w6.alloc (.cells #[.slice A1 l1.length c1, .slice A2 l2.length c2, .slice A3 l3.length c3] 22)) (by omega) (by simp)
    (fun k h => by
      rw [Lib.cell_of_heap hnew k]
      match k, h with
      | 0, _ => rfl
      | 1, _ => rfl
      | 2, _ => rfl)
    (fun k h => by
      rw [hz]
      match k, h with
      | 0, _ => exact (r1.below hba).mono (by omega)
      | 1, _ => exact (r2.below hba).mono (by omega)
      | 2, _ => exact (r3.below hba).mono (by omega)) hlen
  refine H.mono ?_
  rintro e w' ⟨v, rfl, hown, hb⟩
  rw [hfl, hz] at hown
  obtain ⟨A, c, rfl, hcap, hr⟩ := nodes_ownS hown
  refine ⟨A, c, l1 ++ (l2 ++ l3), rfl, rfl, hcap, hr.mono (fun b hb' => hown.lt b hb'), hba.trans (hb.mono (by omega))⟩

theorem add_zero' (a : Addr) : a.add 0 = a := by unfold Addr.add; simp
theorem run_slice_to (A : Option Addr) (len c F : Nat) (h : F ≤ c) (hF : F ≤ 1000000000) (W : World) : (Instr.slice 22 (.slice A len c) none (some (.int .i64 (F : Int))) none).run Try.prog W = .ok (.slice A F c) W := by
  obtain ⟨i0, hi0, hz0, hz1, hz2⟩ := info_parts infoNode
  have e : (if c = 0 then A else Option.map (fun a => a.add 0) A) = A := by
    split
    · rfl
    · cases A <;> simp [add_zero']
  simp [Instr.slice, run_underlying Try.underlying22, Instr.sliceBounds, Instr.sliceBound, asIntOf, h, sizeOf, typeInfo, hi0, e]
/-- where the rest of a slice lies -/
def restA (A : Option Addr) (c T : Nat) : Option Addr := if c = T then A else A.map (·.add (T * 5))
theorem run_slice_from (A : Option Addr) (len c T : Nat) (h : T ≤ len) (W : World) : (Instr.slice 22 (.slice A len c) (some (.int .i64 (T : Int))) none none).run Try.prog W = .ok (.slice (restA A c T) (len - T) (c - T)) W := by
  obtain ⟨i0, hi0, hz0, hz1, hz2⟩ := info_parts infoNode
  simp [Instr.slice, run_underlying Try.underlying22, Instr.sliceBounds, Instr.sliceBound, asIntOf, h, sizeOf, typeInfo, hi0, hz1, restA]
theorem row_take {n₀ : Nat} {w : World} {A : Option Addr} {l : List NT} (h : Row n₀ w A l) (F : Nat) : Row n₀ w A (l.take F) := fun h0 => by
  rw [List.length_take] at h0
  obtain ⟨b, off, hA, hlt, hc⟩ := h (by omega)
  exact ⟨b, off, hA, hlt, fun i hi => by rw [List.getElem_take]; exact hc i (by rw [List.length_take] at hi; omega)⟩
theorem row_drop {n₀ : Nat} {w : World} {A : Option Addr} {l : List NT} {c : Nat} (h : Row n₀ w A l) (T : Nat) (hc : l.length ≤ c) : Row n₀ w (restA A c T) (l.drop T) := fun h0 => by
  rw [List.length_drop] at h0
  obtain ⟨b, off, hA, hlt, hcs⟩ := h (by omega)
  refine ⟨b, off + T * 5, ?_, hlt, fun i hi => ?_⟩
  · unfold restA
    rw [if_neg (by omega), hA]
    simp [Go.WideShapes.add_plain]
  · rw [List.getElem_drop, show off + T * 5 + i * 5 = off + (T + i) * 5 from by omega]
    exact hcs (T + i) (by rw [List.length_drop] at hi; omega)
end Go.Proofs.Ytjikfdifcpdhhaa
