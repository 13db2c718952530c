/- What is proved: an argument that is a list of steps, opened to its cells. -/
import Derived.Test.YtbcabnbgkicfdaaGaStp
import Derived.Test.YtbcabnbgkicfdaaGaOpen
import Derived.Deep.Slices
import Derived.Deep.Strs
import Derived.Deep.Fields
import Derived.ChangeSlices
import Derived.Lib.SmallJoins
set_option linter.unusedVariables false
set_option maxRecDepth 100000
namespace Go.Proofs.Ytbcabnbgkicfdaa
open Go.RowKit Go.ChangeShapes Go.WideShapes Go.Deep Go.Joins

theorem opFields : ∃ f0 f1 f2 f3 : Field, Try.prog.underlying 36 = some (.struct #[f0, f1, f2, f3]) ∧ (f0.type = 3 ∧ f1.type = 3 ∧ f2.type = 3 ∧ f3.type = 3) ∧ oneCellFields Try.prog #[f0, f1, f2, f3] = true :=
  ⟨_, _, _, _, Try.underlying36, ⟨rfl, rfl, rfl, rfl⟩, by kernel_rfl⟩
theorem opCells : Try.prog.cellsOf 36 = 4 := by kernel_rfl
def ocs (o : Op4) : List Value := [.int .i64 o.k, .int .i64 o.a, .int .i64 o.b, .int .i64 o.c]
section
variable {H : Type} {enc : TypeId × Value → H} {w : World} {base : Nat} {spare : Nat → Bool} {held : Bool}
theorem op4_of {fuel : Nat} {cs : List Value} {x : DataW H × List MemPlace} (h : DataW.trod enc Try.prog w base spare held fuel 36 cs = some x) : ∃ v : Op4, cs = ocs v := by
  obtain ⟨f0, f1, f2, f3, hs, ⟨t0, t1, t2, t3⟩, hone⟩ := opFields
  obtain ⟨o0, k0⟩ := hone_of hone 0 f0 rfl
  obtain ⟨o1, k1⟩ := hone_of hone 1 f1 rfl
  obtain ⟨o2, k2⟩ := hone_of hone 2 f2 rfl
  obtain ⟨o3, k3⟩ := hone_of hone 3 f3 rfl
  obtain ⟨y0, y1, y2, y3, n, _, hl, g0, g1, g2, g3⟩ := trod_struct4 hs h
  rw [opCells] at hl
  rw [o0, k0, t0] at g0
  rw [o1, k1, t1] at g1
  rw [o2, k2, t2] at g2
  rw [o3, k3, t3] at g3
  match cs, hl with
  | [c0, c1, c2, c3], _ =>
    obtain ⟨n0, e0, _, w0⟩ := DataW.trod_int Try.underlying3 g0
    obtain ⟨n1, e1, _, w1⟩ := DataW.trod_int Try.underlying3 g1
    obtain ⟨n2, e2, _, w2⟩ := DataW.trod_int Try.underlying3 g2
    obtain ⟨n3, e3, _, w3⟩ := DataW.trod_int Try.underlying3 g3
    simp at e0 e1 e2 e3
    exact ⟨⟨n0, n1, n2, n3⟩, by rw [e0, e1, e2, e3]; rfl⟩
end
theorem open_ops {H : Type} {enc : TypeId × Value → H} {w : World} {base : Nat} {v : Value} {d : DataW H} {p : List MemPlace}
    (hv : Value.okWide Try.prog w .any base 22 v) (h : DataW.Trod enc Try.prog w 0 (fun _ => true) true 22 v d p) :
    ∃ (A : Option Addr) (c : Nat) (l : List Op4), v = .slice A l.length c ∧ l.length ≤ 9223372036854775807 ∧ ORow w A l := by
  obtain ⟨a, len, cap, rfl⟩ := okWide_slice Try.underlying22 hv
  obtain ⟨fuel, hf⟩ := h
  rcases open_slice Try.underlying22 hf with ⟨hcs, _⟩ | ⟨a', len', cap', m, n, D, Pl, hcs, _, hl, hm, hmm, _, hi⟩
  · simp [Value.cells] at hcs
    obtain ⟨rfl, rfl, rfl⟩ := hcs
    exact ⟨none, 0, [], rfl, by simp, fun h => absurd h (by simp)⟩
  · simp [Value.cells] at hcs
    obtain ⟨rfl, rfl, rfl⟩ := hcs
    have hle : len ≤ m := by rw [hmm]; split <;> omega
    have hcell : ∀ i, i < len → ∃ r : Op4, ∀ (j : Nat) (u : Value), (ocs r)[j]? = some u → w.cell? (a'.add (i * 4 + j)) = some u := by
      intro i hil
      obtain ⟨cs', hc, ht⟩ := hi i (by omega)
      rw [opCells] at hc
      obtain ⟨r, rfl⟩ := op4_of ht
      refine ⟨r, fun j u hu => ?_⟩
      have hj : j < 4 := (List.getElem?_eq_some_iff.1 hu).1
      have c0 := (ga_cells_at hc j hj).2
      rw [Go.Deep.add_add] at c0
      rw [c0, hu]
    let F : Nat → Op4 := fun i => if h : i < len then Classical.choose (hcell i h) else ⟨0, 0, 0, 0⟩
    have hF : ∀ i, i < len → ∀ (j : Nat) (u : Value), (ocs (F i))[j]? = some u → w.cell? (a'.add (i * 4 + j)) = some u := by
      intro i hil
      have h := Classical.choose_spec (hcell i hil)
      have e : F i = Classical.choose (hcell i hil) := dif_pos hil
      rw [e]
      exact h
    have hln : ((List.range len).map F).length = len := by simp
    refine ⟨some a', cap, (List.range len).map F, by rw [hln], by rw [hln]; unfold maxLen at hm; omega, fun h0 => ?_⟩
    rw [hln] at h0
    obtain ⟨b, off, spot⟩ := a'
    have hspot : spot = none := by simpa [Addr.add] using World.cell?_spot (hF 0 h0 0 _ rfl)
    subst hspot
    have hb : b < w.heap.size := World.block_lt_of_cell? w _ (by simpa [Addr.add] using (hF 0 h0 0 _ rfl))
    refine ⟨b, off, rfl, hb, fun i hil => ?_⟩
    have hil' : i < len := by rw [hln] at hil; exact hil
    have h := hF i hil'
    have h0' := h 0 _ rfl
    have h1 := h 1 _ rfl
    have h2 := h 2 _ rfl
    have h3 := h 3 _ rfl
    rw [Go.WideShapes.add_plain] at h0' h1 h2 h3
    simp only [List.getElem_map, List.getElem_range]
    exact ⟨h0', h1, h2, h3⟩
end Go.Proofs.Ytbcabnbgkicfdaa
