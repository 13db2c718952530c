/- What is proved: the list of operators stands in memory as the row of each law lays it. -/
import Derived.Test.YtjgkcicgjnjepaaDoorRows
import Derived.Test.YtjgkcicgjnjepaaDoorBvMem
import Derived.Lib.LaidTab
import Derived.LaidSub
import Derived.MakeChecks
set_option linter.unusedVariables false
namespace Go.Proofs.YtjgkcicgjnjepaaDoor
open Go.RowKit

/-- one operator, as the row lists it -/
def shpD (o : Nat) : DataW Unit := .agg [.lit (.int .i64 (srt o)), .lit (.int .i64 ((cnt o : Nat) : Int)), .agg [.lit (.int .i64 (agA o)), .lit (.int .i64 (agB o)), .lit (.int .i64 (agC o))]]
theorem laid_eq : (Rows.laid_assessor_bitvec_shapes : DataW Unit) = .agg ((List.range 18).map shpD) := by kernel_rfl
theorem shCells : Tryd.prog.cellsOf 69 = 5 := by kernel_rfl
theorem shAll : Tryd.prog.cellsOf 70 = 90 := by kernel_rfl
section
variable {H : Type} {enc : TypeId × Value → H} {w : World} {base : Nat} {sp : Nat → Bool} {held : Bool}
theorem one_int {fuel : Nat} {cs : List Value} {a : Int} {p : List MemPlace} (h : DataW.trod enc Tryd.prog w base sp held fuel 3 cs = some (.lit (.int .i64 a), p)) : cs = [.int .i64 a] := by
  obtain ⟨z, hc, he, _⟩ := DataW.trod_int Tryd.underlying3 h
  simp only [Prod.mk.injEq, DataW.lit.injEq, Lit.int.injEq, true_and] at he
  rw [hc, he.1]
theorem arr_ints {fuel : Nat} {cs : List Value} {a b c : Int} {p : List MemPlace} (h : DataW.trod enc Tryd.prog w base sp held fuel 44 cs = some (.agg [.lit (.int .i64 a), .lit (.int .i64 b), .lit (.int .i64 c)], p)) : cs = [.int .i64 a, .int .i64 b, .int .i64 c] := by
  have h2 := Lib.cells_of_tab (zs := [a, b, c]) Tryd.underlying44 Tryd.underlying3 oneCell arCells h
  simpa using h2
set_option maxRecDepth 100000 in
theorem row_ints {fuel : Nat} {cs : List Value} {a b c d e : Int} {p : List MemPlace} (h : DataW.trod enc Tryd.prog w base sp held fuel 69 cs = some (.agg [.lit (.int .i64 a), .lit (.int .i64 b), .agg [.lit (.int .i64 c), .lit (.int .i64 d), .lit (.int .i64 e)]], p)) : cs = [.int .i64 a, .int .i64 b, .int .i64 c, .int .i64 d, .int .i64 e] := by
  cases fuel with
  | zero => simp [DataW.trod] at h
  | succ fuel =>
    simp only [DataW.trod, Tryd.underlying69, shCells] at h
    split at h
    · rename_i hl
      obtain ⟨xs, hm, hx⟩ := Option.map_eq_some_iff.1 h
      simp only [List.mapM_cons, List.mapM_nil, oneCell, arCells, Option.bind_eq_bind, Option.bind_eq_some_iff, Option.pure_def, Option.some.injEq] at hm
      obtain ⟨x0, h0, _, ⟨x1, h1, _, ⟨x2, h2, _, rfl, rfl⟩, rfl⟩, rfl⟩ := hm
      simp only [List.map_cons, List.map_nil, Prod.mk.injEq, DataW.agg.injEq, List.cons.injEq, and_true] at hx
      obtain ⟨⟨e0, e1, e2⟩, _⟩ := hx
      obtain ⟨y0, z0⟩ := x0
      obtain ⟨y1, z1⟩ := x1
      obtain ⟨y2, z2⟩ := x2
      dsimp only at e0 e1 e2
      subst e0 e1 e2
      have q0 := one_int h0
      have q1 := one_int h1
      have q2 := arr_ints h2
      obtain ⟨v0, v1, v2, v3, v4, rfl⟩ : ∃ v0 v1 v2 v3 v4, cs = [v0, v1, v2, v3, v4] := by
        match cs, hl with
        | [v0, v1, v2, v3, v4], _ => exact ⟨v0, v1, v2, v3, v4, rfl⟩
      have r0 : [v0] = [.int .i64 a] := q0
      have r1 : [v1] = [.int .i64 b] := q1
      have r2 : [v2, v3, v4] = [.int .i64 c, .int .i64 d, .int .i64 e] := q2
      simp only [List.cons.injEq, and_true] at r0 r1 r2
      rw [r0, r1, r2.1, r2.2.1, r2.2.2]
    · cases h
end
set_option maxRecDepth 100000 in
theorem tabS_of {W : World} (h : laidMet Tryd.prog [("assessor/bitvec.shapes", (Rows.laid_assessor_bitvec_shapes : DataW Unit))] W) : TabS W := by
  obtain ⟨ps, ⟨g', t', cs, fuel, p, q, hg', ht', hvar, hd, _, _⟩, _⟩ := h
  obtain rfl : (0 : Nat) = g' := Option.some.inj ((show Tryd.prog.globalNamed "assessor/bitvec.shapes" = some 0 by kernel_rfl).symm.trans hg')
  obtain rfl : (70 : Nat) = t' := Option.some.inj ((show (Tryd.prog.globals[0]?).map (·.type) = some 70 by kernel_rfl).symm.trans ht')
  have hcell := World.var?_cell (P := Tryd.prog) (show Tryd.prog.globalNamed "assessor/bitvec.shapes" = some 0 by kernel_rfl) hvar
  rw [laid_eq] at hd
  intro o ho
  have hrow : (cs.toList.drop (o * 5)).take 5 = [.int .i64 (srt o), .int .i64 ((cnt o : Nat) : Int), .int .i64 (agA o), .int .i64 (agB o), .int .i64 (agC o)] := by
    cases fuel with
    | zero => simp [DataW.trod] at hd
    | succ fuel =>
      simp only [DataW.trod, Tryd.underlying70, shCells, shAll] at hd
      split at hd
      · rename_i hl
        obtain ⟨xs, hm, hx⟩ := Option.map_eq_some_iff.1 hd
        simp only [Prod.mk.injEq, DataW.agg.injEq] at hx
        obtain ⟨y, hy, hf⟩ := Lib.mapM_at hm o o (by simp [ho])
        have e1 : (xs.map (·.1))[o]? = some y.1 := by simp [hy]
        rw [hx.1] at e1
        simp only [List.getElem?_map, List.getElem?_range, ho, Option.map_some, Option.some.injEq] at e1
        obtain ⟨y1, y2⟩ := y
        dsimp only at e1
        subst e1
        exact row_ints hf
      · cases hd
  have at_ : ∀ j, j < 5 → W.cell? ⟨0, o * 5 + j, none⟩ = [Value.int .i64 (srt o), .int .i64 ((cnt o : Nat) : Int), .int .i64 (agA o), .int .i64 (agB o), .int .i64 (agC o)][j]? := fun j hj => by
    rw [hcell (o * 5 + j), ← hrow, List.getElem?_take, if_pos hj, List.getElem?_drop, Array.getElem?_toList]
  exact ⟨at_ 0 (by omega), at_ 1 (by omega), at_ 2 (by omega), at_ 3 (by omega), at_ 4 (by omega)⟩
end Go.Proofs.YtjgkcicgjnjepaaDoor
