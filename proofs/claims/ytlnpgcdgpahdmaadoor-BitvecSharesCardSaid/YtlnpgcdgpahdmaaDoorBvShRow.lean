/- What is proved: the law BitvecShares, over what the row lays. -/
import Derived.Test.YtlnpgcdgpahdmaaDoorBvTab
import Derived.Test.YtlnpgcdgpahdmaaDoorBvShLaw
set_option linter.unusedVariables false
namespace Go.Proofs.YtlnpgcdgpahdmaaDoor
open Go.RowKit
theorem shares_row (a : Int) (A : Option Addr) (c : Nat) (l : List Tm) (W : World) (ha : (Lit.int .i64 a).wf = true) (hl : TOpn W A l) (hL : laidMetH Tryd.prog Rows.bitvecSharesRow.laid W) :
    Calls Tryd.prog 5 #[.int .i64 a, .slice A l.length c] W fun e w' => e = .returned (.bool true) ∧ Below W.heap.size W w' := by
  have h : laidMetH Tryd.prog [("assessor/bitvec.shapes", (Rows.laid_assessor_bitvec_shapes : DataW Unit))] W := hL
  rw [MakeChecks.laidMetH_plain _ _ _ (by kernel_rfl)] at h
  exact law_shares a A c l W (tabS_of h) hl
end Go.Proofs.YtlnpgcdgpahdmaaDoor
