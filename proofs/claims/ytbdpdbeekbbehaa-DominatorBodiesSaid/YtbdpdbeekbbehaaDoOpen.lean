/- What is proved: an argument that is a flow, opened to its cells. -/
import Derived.Test.YtbdpdbeekbbehaaDoBase
import Derived.Deep.Slices
import Derived.Deep.Fields
import Derived.ChangeSlices
import Derived.ChangeSame
import Derived.Lib.SmallJoins
set_option linter.unusedVariables false
set_option maxRecDepth 100000
namespace Go.Proofs.Ytbdpdbeekbbehaa
open Go.RowKit Go.ChangeShapes Go.WideShapes Go.Deep Go.Joins

theorem ptFields : ∃ f0 f1 f2 : Field, Try.prog.underlying 44 = some (.struct #[f0, f1, f2]) ∧ f0.type = 3 ∧ f1.type = 3 ∧ f2.type = 29 ∧ oneCellFields Try.prog #[f0, f1, f2] = true :=
  ⟨_, _, _, Try.underlying44, rfl, rfl, rfl, by kernel_rfl⟩
theorem flFields : ∃ f0 : Field, Try.prog.underlying 24 = some (.struct #[f0]) ∧ f0.type = 22 ∧ oneCellFields Try.prog #[f0] = true :=
  ⟨_, Try.underlying24, rfl, by kernel_rfl⟩
theorem ptCells : Try.prog.cellsOf 44 = 3 := by kernel_rfl
theorem flCells : Try.prog.cellsOf 24 = 1 := by kernel_rfl
theorem inCells : Try.prog.cellsOf 3 = 1 := by kernel_rfl
/-- what is known of a point of an argument -/
def PtOk (w : World) (p : PtV) : Prop := ZRow w.heap.size w p.A p.nx ∧ p.nx.length ≤ p.c ∧ p.nx.length ≤ 9223372036854775807
/-- what is known of a flow that is an argument -/
structure FlArg (w : World) (A : Option Addr) (c : Nat) (l : List PtV) : Prop where
  row : PRow w.heap.size w A l
  len : l.length ≤ 9223372036854775807
  few : ∀ p ∈ l, p.nx.length ≤ 9223372036854775807
section
variable {H : Type} {enc : TypeId × Value → H} {w : World}
theorem row_of {fuel : Nat} {cs : List Value} {x : DataW H × List MemPlace} (h : DataW.trod enc Try.prog w 0 (fun _ => true) true fuel 29 cs = some x) : ∃ A c l, cs = [.slice A (List.length (α := Int) l) c] ∧ ZRow w.heap.size w A l ∧ l.length ≤ c ∧ l.length ≤ 9223372036854775807 := by
  rcases open_ints Try.underlying29 Try.underlying3 inCells h with ⟨hcs, hx⟩ | ⟨a', len, cap, zs, hcs, _, hl, hm, hlen, hx, hcell, hwf⟩
  · exact ⟨none, 0, [], hcs, fun h0 => absurd h0 (by simp), by simp, by simp⟩
  · have hle : len ≤ zs.length := by rw [hlen]; simp; exact hl
    have hll : (zs.take len).length = len := by rw [List.length_take]; omega
    refine ⟨some a', cap, zs.take len, by rw [hll]; exact hcs, fun h0 => ?_, by rw [hll]; exact hl, by rw [hll]; unfold maxLen at hm; omega⟩
    rw [hll] at h0
    obtain ⟨bk, off, spot⟩ := a'
    have h1 := hcell 0 (by omega)
    have hspot : spot = none := by simpa [Addr.add] using World.cell?_spot h1
    subst hspot
    have hbk : bk < w.heap.size := World.block_lt_of_cell? w _ (by simpa [Addr.add] using h1)
    refine ⟨bk, off, rfl, hbk, fun i hil => ?_⟩
    have h2 := hcell i (by rw [hll] at hil; omega)
    rw [Go.WideShapes.add_plain] at h2
    rw [h2]
    have : i < zs.length := by rw [hll] at hil; omega
    simp [List.getD_eq_getElem?_getD, List.getElem?_eq_getElem this]
theorem point_of {fuel : Nat} {cs : List Value} {x : DataW H × List MemPlace} (h : DataW.trod enc Try.prog w 0 (fun _ => true) true fuel 44 cs = some x) : ∃ p : PtV, cs = [.int .i64 p.kind, .int .i64 p.node, .slice p.A p.nx.length p.c] ∧ PtOk w p := by
  obtain ⟨f0, f1, f2, hs, t0, t1, t2, hone⟩ := ptFields
  obtain ⟨y0, y1, y2, n, _, hl, g0, g1, g2⟩ := trod_struct3 hs h
  rw [ptCells] at hl
  obtain ⟨o0, k0⟩ := hone_of hone 0 f0 rfl
  obtain ⟨o1, k1⟩ := hone_of hone 1 f1 rfl
  obtain ⟨o2, k2⟩ := hone_of hone 2 f2 rfl
  match cs, hl with
  | [c0, c1, c2], _ =>
    rw [o0, k0, t0] at g0
    rw [o1, k1, t1] at g1
    rw [o2, k2, t2] at g2
    obtain ⟨n0, e0, _, _⟩ := DataW.trod_int Try.underlying3 g0
    obtain ⟨n1, e1, _, _⟩ := DataW.trod_int Try.underlying3 g1
    obtain ⟨A, c, l, e2, h1, h2, h3⟩ := row_of g2
    simp at e0 e1 e2
    exact ⟨⟨n0, n1, A, c, l⟩, by rw [e0, e1, e2], h1, h2, h3⟩
theorem do_cells_at {b : Nat} {a : Addr} {n : Nat} {cs : List Value} (h : w.cells? b a n = some cs) (j : Nat) (hj : j < n) : w.cell? (a.add j) = cs[j]? := (World.cells?_some h).2.2 j hj
end
theorem open_flow {H : Type} {enc : TypeId × Value → H} {w : World} {base : Nat} {v : Value} {d : DataW H} {p : List MemPlace}
    (hv : Value.okWide Try.prog w .any base 24 v) (h : DataW.Trod enc Try.prog w 0 (fun _ => true) true 24 v d p) :
    ∃ (A : Option Addr) (c : Nat) (l : List PtV), v = .agg #[.slice A l.length c] ∧ FlArg w A c l := by
  obtain ⟨f0, hs, t0, hone⟩ := flFields
  obtain ⟨o0, k0⟩ := hone_of hone 0 f0 rfl
  obtain ⟨cs, rfl, hcsz⟩ := okWide_struct hs hv
  rw [flCells] at hcsz
  obtain ⟨l0⟩ := cs
  simp at hcsz
  obtain ⟨c0, rfl⟩ := List.length_eq_one_iff.1 hcsz
  obtain ⟨fuel, hf⟩ := h
  obtain ⟨y0, n, _, hl, g0⟩ := trod_struct1 hs hf
  rw [o0, k0, t0] at g0
  have g1 : DataW.trod enc Try.prog w 0 (fun _ => true) true n 22 [c0] = some y0 := by simpa [Value.cells] using g0
  rcases open_slice Try.underlying22 g1 with ⟨hcs, _⟩ | ⟨a, len, cap, m, n, D, Pl, hcs, _, hl, hm, hmm, _, hi⟩
  · cases hcs
    exact ⟨none, 0, [], rfl, ⟨fun h => absurd h (by simp), by simp⟩, by simp, by simp⟩
  · cases hcs
    have hle : len ≤ m := by rw [hmm]; split <;> omega
    have hcell : ∀ i, i < len → ∃ r : PtV, PtOk w r ∧ ∀ (j : Nat) (u : Value), ([.int .i64 r.kind, .int .i64 r.node, .slice r.A r.nx.length r.c] : List Value)[j]? = some u → w.cell? (a.add (i * 3 + j)) = some u := by
      intro i hil
      obtain ⟨cs', hc, ht⟩ := hi i (by omega)
      obtain ⟨r, rfl, hok⟩ := point_of ht
      rw [ptCells] at hc
      refine ⟨r, hok, fun j u hu => ?_⟩
      have hj : j < 3 := (List.getElem?_eq_some_iff.1 hu).1
      have c0 := do_cells_at hc j hj
      rw [Go.Deep.add_add] at c0
      rw [c0, hu]
    let F : Nat → PtV := fun i => if h : i < len then Classical.choose (hcell i h) else ⟨0, 0, none, 0, []⟩
    have hF : ∀ i, i < len → PtOk w (F i) ∧ ∀ (j : Nat) (u : Value), ([.int .i64 (F i).kind, .int .i64 (F i).node, .slice (F i).A (F i).nx.length (F i).c] : List Value)[j]? = some u → w.cell? (a.add (i * 3 + j)) = some u := by
      intro i hil
      have h := Classical.choose_spec (hcell i hil)
      have e : F i = Classical.choose (hcell i hil) := dif_pos hil
      rw [e]
      exact h
    have hln : ((List.range len).map F).length = len := by simp
    have hall : ∀ x ∈ (List.range len).map F, PtOk w x := fun x hx => by
      obtain ⟨i, hi, rfl⟩ := List.mem_map.1 hx
      exact (hF i (List.mem_range.1 hi)).1
    refine ⟨some a, cap, (List.range len).map F, by rw [hln], ⟨fun h0 => ?_, fun x hx => ⟨(hall x hx).1, (hall x hx).2.1⟩⟩, by rw [hln]; unfold maxLen at hm; omega, fun x hx => (hall x hx).2.2⟩
    rw [hln] at h0
    obtain ⟨b, off, spot⟩ := a
    have hspot : spot = none := by simpa [Addr.add] using World.cell?_spot ((hF 0 h0).2 0 _ rfl)
    subst hspot
    have hb : b < w.heap.size := World.block_lt_of_cell? w _ (by simpa [Addr.add] using ((hF 0 h0).2 0 _ rfl))
    refine ⟨b, off, rfl, hb, fun i hil => ?_⟩
    have hil' : i < len := by rw [hln] at hil; exact hil
    have h := (hF i hil').2
    have h0' := h 0 _ rfl
    have h1 := h 1 _ rfl
    have h2 := h 2 _ rfl
    rw [Go.WideShapes.add_plain] at h0' h1 h2
    simp only [List.getElem_map, List.getElem_range]
    exact ⟨h0', h1, h2⟩
end Go.Proofs.Ytbdpdbeekbbehaa
