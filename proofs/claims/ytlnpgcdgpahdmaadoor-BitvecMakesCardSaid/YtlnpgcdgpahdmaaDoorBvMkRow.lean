/- What is proved: the law BitvecMakes, over what the row lays. -/
import Derived.Test.YtlnpgcdgpahdmaaDoorBvTab
import Derived.Test.YtlnpgcdgpahdmaaDoorBvMkLaw
set_option linter.unusedVariables false
namespace Go.Proofs.YtlnpgcdgpahdmaaDoor
open Go.RowKit
theorem makes_row (a : Int) (A : Option Addr) (c : Nat) (l : List Tm) (i : Int) (W : World) (ha : (Lit.int .i64 a).wf = true) (hl : TOpn W A l) (hi : (Lit.int .i64 i).wf = true) (hL : laidMetH Tryd.prog Rows.bitvecMakesRow.laid W) :
    Calls Tryd.prog 3 #[.int .i64 a, .slice A l.length c, .int .i64 i] W fun e w' => e = .returned (.bool true) ∧ Below W.heap.size W w' := by
  have h : laidMetH Tryd.prog [("assessor/bitvec.shapes", (Rows.laid_assessor_bitvec_shapes : DataW Unit))] W := hL
  rw [MakeChecks.laidMetH_plain _ _ _ (by kernel_rfl)] at h
  exact law_makes a A c l i W (tabS_of h) hl
end Go.Proofs.YtlnpgcdgpahdmaaDoor
