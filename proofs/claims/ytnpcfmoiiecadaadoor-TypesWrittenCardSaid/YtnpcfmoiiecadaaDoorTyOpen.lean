/- What is proved: arguments that are records or types, opened to their cells. -/
import Derived.Test.YtnpcfmoiiecadaaDoorTyFewW
import Derived.Deep.Slices
import Derived.Deep.Fields
import Derived.ChangeSame
import Derived.Lib.SmallJoins
set_option linter.unusedVariables false
set_option maxRecDepth 100000
namespace Go.Proofs.YtnpcfmoiiecadaaDoor
open Go.RowKit Go.ChangeShapes Go.WideShapes Go.Deep Go.Joins

theorem tyFields : ∃ f0 f1 f2 : Field, Tryd.prog.underlying 23 = some (.struct #[f0, f1, f2]) ∧ f0.type = 3 ∧ f1.type = 3 ∧ f2.type = 9 ∧ oneCellFields Tryd.prog #[f0, f1, f2] = true :=
  ⟨_, _, _, Tryd.underlying23, rfl, rfl, rfl, by kernel_rfl⟩
theorem tyCells : Tryd.prog.cellsOf 23 = 3 := by kernel_rfl
theorem fldFields : ∃ f0 f1 : Field, Tryd.prog.underlying 87 = some (.struct #[f0, f1]) ∧ f0.type = 9 ∧ f1.type = 23 ∧ f0.offset = 0 ∧ f1.offset = 1 :=
  ⟨_, _, Tryd.underlying87, rfl, rfl, rfl, rfl⟩
theorem fldCells : Tryd.prog.cellsOf 87 = 4 := by kernel_rfl
theorem strCells : Tryd.prog.cellsOf 9 = 1 := by kernel_rfl
theorem rcFields : ∃ f0 f1 : Field, Tryd.prog.underlying 44 = some (.struct #[f0, f1]) ∧ f0.type = 9 ∧ f1.type = 42 ∧ f0.offset = 0 ∧ f1.offset = 1 :=
  ⟨_, _, Tryd.underlying44, rfl, rfl, rfl, rfl⟩
theorem rcCells : Tryd.prog.cellsOf 44 = 2 := by kernel_rfl
theorem slCells : Tryd.prog.cellsOf 42 = 1 := by kernel_rfl

section
variable {H : Type} {enc : TypeId × Value → H} {w : World} {base : Nat} {spare : Nat → Bool} {held : Bool}
/-- three cells that read as a type -/
theorem ty_of {fuel : Nat} {cs : List Value} {x : DataW H × List MemPlace} (h : DataW.trod enc Tryd.prog w base spare held fuel 23 cs = some x) : ∃ t : TyV, cs = [.int .i64 t.kind, .int .i64 t.len, .string t.nm] := by
  obtain ⟨f0, f1, f2, hs, t0, t1, t2, hone⟩ := tyFields
  obtain ⟨y0, y1, y2, n, _, hl, g0, g1, g2⟩ := trod_struct3 hs h
  rw [tyCells] at hl
  obtain ⟨o0, k0⟩ := hone_of hone 0 f0 rfl
  obtain ⟨o1, k1⟩ := hone_of hone 1 f1 rfl
  obtain ⟨o2, k2⟩ := hone_of hone 2 f2 rfl
  match cs, hl with
  | [c0, c1, c2], _ =>
    rw [o0, k0, t0] at g0
    rw [o1, k1, t1] at g1
    rw [o2, k2, t2] at g2
    obtain ⟨n0, e0, _, _⟩ := DataW.trod_int Tryd.underlying3 g0
    obtain ⟨n1, e1, _, _⟩ := DataW.trod_int Tryd.underlying3 g1
    obtain ⟨n2, e2, _, _⟩ := DataW.trod_string Tryd.underlying9 g2
    simp at e0 e1 e2
    exact ⟨⟨n0, n1, n2⟩, by rw [e0, e1, e2]⟩
/-- four cells that read as a field -/
theorem fld_of {fuel : Nat} {cs : List Value} {x : DataW H × List MemPlace} (h : DataW.trod enc Tryd.prog w base spare held fuel 87 cs = some x) : ∃ f : FldV, cs = [.string f.name, .int .i64 f.ty.kind, .int .i64 f.ty.len, .string f.ty.nm] := by
  obtain ⟨f0, f1, hs, t0, t1, o0, o1⟩ := fldFields
  obtain ⟨y0, y1, n, _, hl, g0, g1⟩ := trod_struct2 hs h
  rw [fldCells] at hl
  match cs, hl with
  | [c0, c1, c2, c3], _ =>
    rw [o0, t0, strCells] at g0
    rw [o1, t1, tyCells] at g1
    obtain ⟨n0, e0, _, _⟩ := DataW.trod_string Tryd.underlying9 g0
    obtain ⟨t, ht⟩ := ty_of g1
    simp at e0 ht
    obtain ⟨h1, h2, h3⟩ := ht
    exact ⟨⟨n0, t⟩, by rw [e0, h1, h2, h3]⟩
theorem cells_at {b : Nat} {a : Addr} {n : Nat} {cs : List Value} (h : w.cells? b a n = some cs) (j : Nat) (hj : j < n) : cs.length = n ∧ w.cell? (a.add j) = cs[j]? := by
  obtain ⟨_, hcl, hat⟩ := World.cells?_some h
  exact ⟨hcl, hat j hj⟩
/-- a slice of fields -/
theorem flds_of {fuel : Nat} {cs : List Value} {x : DataW H × List MemPlace} (h : DataW.trod enc Tryd.prog w base spare held fuel 42 cs = some x) :
    ∃ (A : Option Addr) (c : Nat) (l : List FldV), cs = [.slice A l.length c] ∧ l.length ≤ 9223372036854775807 ∧ FRow w.heap.size w A l := by
  rcases open_slice Tryd.underlying42 h with ⟨hcs, _⟩ | ⟨a, len, cap, m, n, D, Pl, hcs, _, hl, hm, hmm, _, hi⟩
  · exact ⟨none, 0, [], by simpa using hcs, by simp, fun h => absurd h (by simp)⟩
  · have hle : len ≤ m := by rw [hmm]; split <;> omega
    have hcell : ∀ i, i < len → ∃ f : FldV, w.cell? (a.add (i * 4)) = some (.string f.name) ∧ w.cell? (a.add (i * 4 + 1)) = some (.int .i64 f.ty.kind) ∧ w.cell? (a.add (i * 4 + 2)) = some (.int .i64 f.ty.len) ∧ w.cell? (a.add (i * 4 + 3)) = some (.string f.ty.nm) := by
      intro i hil
      obtain ⟨cs', hc, ht⟩ := hi i (by omega)
      obtain ⟨f, rfl⟩ := fld_of ht
      rw [fldCells] at hc
      have c0 := (cells_at hc 0 (by omega)).2
      have c1 := (cells_at hc 1 (by omega)).2
      have c2 := (cells_at hc 2 (by omega)).2
      have c3 := (cells_at hc 3 (by omega)).2
      rw [Go.Deep.add_add] at c0 c1 c2 c3
      exact ⟨f, c0, c1, c2, c3⟩
    let F : Nat → FldV := fun i => if h : i < len then Classical.choose (hcell i h) else ⟨⟨#[]⟩, ⟨0, 0, ⟨#[]⟩⟩⟩
    have hF : ∀ i, i < len → w.cell? (a.add (i * 4)) = some (.string (F i).name) ∧ w.cell? (a.add (i * 4 + 1)) = some (.int .i64 (F i).ty.kind) ∧ w.cell? (a.add (i * 4 + 2)) = some (.int .i64 (F i).ty.len) ∧ w.cell? (a.add (i * 4 + 3)) = some (.string (F i).ty.nm) := by
      intro i hil
      have h := Classical.choose_spec (hcell i hil)
      have e : F i = Classical.choose (hcell i hil) := dif_pos hil
      rw [e]
      exact h
    have hln : ((List.range len).map F).length = len := by simp
    refine ⟨some a, cap, (List.range len).map F, by rw [hln]; exact hcs, by rw [hln]; unfold maxLen at hm; omega, fun h0 => ?_⟩
    rw [hln] at h0
    obtain ⟨b, off, spot⟩ := a
    have hspot : spot = none := by simpa [Addr.add] using World.cell?_spot (hF 0 h0).1
    subst hspot
    have hb : b < w.heap.size := World.block_lt_of_cell? w _ (by simpa [Addr.add] using (hF 0 h0).1)
    refine ⟨b, off, rfl, hb, fun i hil => ?_⟩
    have hil' : i < len := by rw [hln] at hil; exact hil
    obtain ⟨h1, h2, h3, h4⟩ := hF i hil'
    rw [Go.WideShapes.add_plain] at h1 h2 h3 h4
    simp only [List.getElem_map, List.getElem_range]
    exact ⟨h1, h2, h3, h4⟩
/-- two cells that read as a record -/
theorem rc_of {fuel : Nat} {cs : List Value} {x : DataW H × List MemPlace} (h : DataW.trod enc Tryd.prog w base spare held fuel 44 cs = some x) : ∃ r : RcV, cs = [.string r.name, .slice r.A r.flds.length r.c] ∧ r.flds.length ≤ 9223372036854775807 ∧ FRow w.heap.size w r.A r.flds := by
  obtain ⟨f0, f1, hs, t0, t1, o0, o1⟩ := rcFields
  obtain ⟨y0, y1, n, _, hl, g0, g1⟩ := trod_struct2 hs h
  rw [rcCells] at hl
  match cs, hl with
  | [c0, c1], _ =>
    rw [o0, t0, strCells] at g0
    rw [o1, t1, slCells] at g1
    obtain ⟨n0, e0, _, _⟩ := DataW.trod_string Tryd.underlying9 g0
    obtain ⟨A, c, l, e1, hl, hr⟩ := flds_of g1
    simp at e0 e1
    exact ⟨⟨n0, A, c, l⟩, by rw [e0, e1], hl, hr⟩
end

theorem open_recs {H : Type} {enc : TypeId × Value → H} {w : World} {base : Nat} {v : Value} {d : DataW H} {p : List MemPlace}
    (hv : Value.okWide Tryd.prog w .any base 24 v) (h : DataW.Trod enc Tryd.prog w 0 (fun _ => true) true 24 v d p) :
    ∃ (A : Option Addr) (c : Nat) (l : List RcV), v = .slice A l.length c ∧ l.length ≤ 9223372036854775807 ∧ RRowW w.heap.size w A l := by
  obtain ⟨a, len, cap, rfl⟩ := okWide_slice Tryd.underlying24 hv
  obtain ⟨fuel, hf⟩ := h
  rcases open_slice Tryd.underlying24 hf with ⟨hcs, _⟩ | ⟨a, len, cap, m, n, D, Pl, hcs, _, hl, hm, hmm, _, hi⟩
  · simp [Value.cells] at hcs
    obtain ⟨rfl, rfl, rfl⟩ := hcs
    exact ⟨none, 0, [], rfl, by simp, fun h => absurd h (by simp)⟩
  · simp [Value.cells] at hcs
    obtain ⟨rfl, rfl, rfl⟩ := hcs
    have hle : len ≤ m := by rw [hmm]; split <;> omega
    have hcell : ∀ i, i < len → ∃ r : RcV, w.cell? (a.add (i * 2)) = some (.string r.name) ∧ w.cell? (a.add (i * 2 + 1)) = some (.slice r.A r.flds.length r.c) ∧ FRow w.heap.size w r.A r.flds ∧ r.flds.length ≤ 9223372036854775807 := by
      intro i hil
      obtain ⟨cs', hc, ht⟩ := hi i (by omega)
      obtain ⟨r, rfl, hrl, hrr⟩ := rc_of ht
      rw [rcCells] at hc
      have c0 := (cells_at hc 0 (by omega)).2
      have c1 := (cells_at hc 1 (by omega)).2
      rw [Go.Deep.add_add] at c0 c1
      exact ⟨r, c0, c1, hrr, hrl⟩
    let F : Nat → RcV := fun i => if h : i < len then Classical.choose (hcell i h) else ⟨⟨#[]⟩, none, 0, []⟩
    have hF : ∀ i, i < len → w.cell? (a.add (i * 2)) = some (.string (F i).name) ∧ w.cell? (a.add (i * 2 + 1)) = some (.slice (F i).A (F i).flds.length (F i).c) ∧ FRow w.heap.size w (F i).A (F i).flds ∧ (F i).flds.length ≤ 9223372036854775807 := by
      intro i hil
      have h := Classical.choose_spec (hcell i hil)
      have e : F i = Classical.choose (hcell i hil) := dif_pos hil
      rw [e]
      exact h
    have hln : ((List.range len).map F).length = len := by simp
    refine ⟨some a, cap, (List.range len).map F, by rw [hln], by rw [hln]; unfold maxLen at hm; omega, fun h0 => ?_⟩
    rw [hln] at h0
    obtain ⟨b, off, spot⟩ := a
    have hspot : spot = none := by simpa [Addr.add] using World.cell?_spot (hF 0 h0).1
    subst hspot
    have hb : b < w.heap.size := World.block_lt_of_cell? w _ (by simpa [Addr.add] using (hF 0 h0).1)
    refine ⟨b, off, rfl, hb, fun i hil => ?_⟩
    have hil' : i < len := by rw [hln] at hil; exact hil
    obtain ⟨h1, h2, h3, h4⟩ := hF i hil'
    rw [Go.WideShapes.add_plain] at h1 h2
    simp only [List.getElem_map, List.getElem_range]
    exact ⟨h1, h2, h3, h4⟩

theorem open_ty {H : Type} {enc : TypeId × Value → H} {w : World} {base : Nat} {v : Value} {d : DataW H} {p : List MemPlace}
    (hv : Value.okWide Tryd.prog w .any base 23 v) (h : DataW.Trod enc Tryd.prog w 0 (fun _ => true) true 23 v d p) : ∃ t : TyV, v = .agg #[.int .i64 t.kind, .int .i64 t.len, .string t.nm] := by
  obtain ⟨f0, f1, f2, hs, t0, t1, t2, hone⟩ := tyFields
  obtain ⟨v0, v1, v2, y0, y1, y2, n, rfl, _, _, g0, g1, g2⟩ := open_agg3 hs hone tyCells hv h
  rw [t0] at g0
  rw [t1] at g1
  rw [t2] at g2
  obtain ⟨n0, e0, _, _⟩ := DataW.trod_int Tryd.underlying3 g0
  obtain ⟨n1, e1, _, _⟩ := DataW.trod_int Tryd.underlying3 g1
  obtain ⟨n2, e2, _, _⟩ := DataW.trod_string Tryd.underlying9 g2
  simp at e0 e1 e2
  exact ⟨⟨n0, n1, n2⟩, by rw [e0, e1, e2]⟩
end Go.Proofs.YtnpcfmoiiecadaaDoor
