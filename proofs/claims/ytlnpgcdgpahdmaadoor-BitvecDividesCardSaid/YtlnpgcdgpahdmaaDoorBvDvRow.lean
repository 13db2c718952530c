/- What is proved: the law BitvecDivides, over what the row lays. -/
import Derived.Test.YtlnpgcdgpahdmaaDoorBvTab
import Derived.Test.YtlnpgcdgpahdmaaDoorBvDvLaw
set_option linter.unusedVariables false
namespace Go.Proofs.YtlnpgcdgpahdmaaDoor
open Go.RowKit
theorem divides_row (a b c : Int) (W : World) (ha : (Lit.int .i64 a).wf = true) (hb : (Lit.int .i64 b).wf = true) (hc : (Lit.int .i64 c).wf = true) (hL : laidMetH Tryd.prog Rows.bitvecDividesRow.laid W) :
    Calls Tryd.prog 7 #[.int .i64 a, .int .i64 b, .int .i64 c] W fun e w' => e = .returned (.bool true) ∧ Below W.heap.size W w' := by
  have h : laidMetH Tryd.prog [("assessor/bitvec.shapes", (Rows.laid_assessor_bitvec_shapes : DataW Unit))] W := hL
  rw [MakeChecks.laidMetH_plain _ _ _ (by kernel_rfl)] at h
  exact law_divides a b c W (tabS_of h) ha
end Go.Proofs.YtlnpgcdgpahdmaaDoor
