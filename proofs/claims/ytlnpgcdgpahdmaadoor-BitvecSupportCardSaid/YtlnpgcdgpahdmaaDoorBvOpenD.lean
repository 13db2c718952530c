/- What is proved: an argument that is a list of numbers, opened to its cells, with the data that was read. -/
import Derived.Test.YtlnpgcdgpahdmaaDoorBvOpen
import Derived.SizedLaws
set_option linter.unusedVariables false
set_option maxRecDepth 100000
namespace Go.Proofs.YtlnpgcdgpahdmaaDoor
open Go.RowKit Go.ChangeShapes Go.WideShapes Go.Deep Go.Joins
theorem open_zsd {H : Type} {enc : TypeId × Value → H} {W : World} {base : Nat} {v : Value} {d : DataW H} {p : List MemPlace}
    (hv : Value.okWide Tryd.prog W .any base 45 v) (h : DataW.Trod enc Tryd.prog W 0 (fun _ => true) true 45 v d p) :
    ∃ (A : Option Addr) (c : Nat) (l : List Int), v = .slice A l.length c ∧ ZOpn W A c l ∧ (l = [] ∨ ∃ E S, d = .slice E S ∧ l.length ≤ E.length) := by
  obtain ⟨a, len, cap, rfl⟩ := okWide_slice Tryd.underlying45 hv
  obtain ⟨fuel, hf⟩ := h
  rcases open_ints Tryd.underlying45 Tryd.underlying3 oneCell hf with ⟨hcs, hx⟩ | ⟨a', len', cap', zs, hcs, _, hl, hm, hlen, hx, hcell, hwf⟩
  · simp [Value.cells] at hcs
    obtain ⟨rfl, rfl, rfl⟩ := hcs
    exact ⟨none, 0, [], rfl, ⟨by simp, by simp, fun h0 => absurd h0 (by simp), fun i => by simp⟩, .inl rfl⟩
  · simp [Value.cells] at hcs
    obtain ⟨rfl, rfl, rfl⟩ := hcs
    have hle : len ≤ zs.length := by rw [hlen]; simp; exact hl
    have hll : (zs.take len).length = len := by rw [List.length_take]; omega
    refine ⟨some a', cap, zs.take len, by rw [hll], ⟨by rw [hll]; exact hl, by rw [hll]; unfold maxLen at hm; omega, fun h0 => ?_, fun i => ?_⟩, .inr ⟨_, _, (Prod.mk.inj hx).1, by simp [lits]⟩⟩
    · rw [hll] at h0
      obtain ⟨bk, off, spot⟩ := a'
      have h1 := hcell 0 (by omega)
      have hspot : spot = none := by simpa [Addr.add] using World.cell?_spot h1
      subst hspot
      have hbk : bk < W.heap.size := World.block_lt_of_cell? W _ (by simpa [Addr.add] using h1)
      refine ⟨bk, off, rfl, hbk, fun i hil => ?_⟩
      have h2 := hcell i (by rw [hll] at hil; omega)
      rw [Go.WideShapes.add_plain] at h2
      rw [h2]
      have : i < zs.length := by rw [hll] at hil; omega
      simp [List.getD_eq_getElem?_getD, List.getElem?_eq_getElem this]
    · rcases Nat.lt_or_ge i (zs.take len).length with hi | hi
      · have hm2 : (zs.take len)[i] ∈ zs := List.mem_of_mem_take (List.getElem_mem hi)
        have hw := hwf _ hm2
        simp [Lit.wf, IntKind.min, IntKind.max, IntKind.bits, IntKind.signed] at hw
        rw [List.getD_eq_getElem?_getD, List.getElem?_eq_getElem hi]
        simp only [Option.getD_some, List.getElem_take]
        omega
      · rw [List.getD_eq_getElem?_getD, List.getElem?_eq_none hi]
        simp
end Go.Proofs.YtlnpgcdgpahdmaaDoor
