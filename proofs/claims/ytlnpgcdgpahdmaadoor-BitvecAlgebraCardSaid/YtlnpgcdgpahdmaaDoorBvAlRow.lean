/- What is proved: the law BitvecAlgebra, over what the row lays. -/
import Derived.Test.YtlnpgcdgpahdmaaDoorBvTab
import Derived.Test.YtlnpgcdgpahdmaaDoorBvAlLaw
set_option linter.unusedVariables false
namespace Go.Proofs.YtlnpgcdgpahdmaaDoor
open Go.RowKit
theorem algebra_row (a b c d : Int) (W : World) (ha : (Lit.int .i64 a).wf = true) (hb : (Lit.int .i64 b).wf = true) (hc : (Lit.int .i64 c).wf = true) (hd : (Lit.int .i64 d).wf = true) (hL : laidMetH Tryd.prog Rows.bitvecAlgebraRow.laid W) :
    Calls Tryd.prog 8 #[.int .i64 a, .int .i64 b, .int .i64 c, .int .i64 d] W fun e w' => e = .returned (.bool true) ∧ Below W.heap.size W w' := by
  have h : laidMetH Tryd.prog [("assessor/bitvec.shapes", (Rows.laid_assessor_bitvec_shapes : DataW Unit))] W := hL
  rw [MakeChecks.laidMetH_plain _ _ _ (by kernel_rfl)] at h
  exact law_algebra a b c d W (tabS_of h) ha
end Go.Proofs.YtlnpgcdgpahdmaaDoor
