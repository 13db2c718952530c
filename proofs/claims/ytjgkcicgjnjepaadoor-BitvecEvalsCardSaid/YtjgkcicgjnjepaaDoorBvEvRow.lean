/- What is proved: the law BitvecEvals, over what the row lays. -/
import Derived.Test.YtjgkcicgjnjepaaDoorBvTab
import Derived.Test.YtjgkcicgjnjepaaDoorBvEvLaw
set_option linter.unusedVariables false
namespace Go.Proofs.YtjgkcicgjnjepaaDoor
open Go.RowKit
theorem evals_row (a : Int) (A : Option Addr) (c : Nat) (l : List Tm) (Ai : Option Addr) (ci : Nat) (inp : List Int) (odd : Int) (W : World) (ha : (Lit.int .i64 a).wf = true) (hl : TOpn W A l) (hi : ZOpn W Ai ci inp) (hL : laidMetH Tryd.prog Rows.bitvecEvalsRow.laid W) :
    Calls Tryd.prog 3 #[.int .i64 a, .slice A l.length c, .slice Ai inp.length ci, .int .i64 odd] W fun e w' => e = .returned (.bool true) ∧ Below W.heap.size W w' := by
  have h : laidMetH Tryd.prog [("assessor/bitvec.shapes", (Rows.laid_assessor_bitvec_shapes : DataW Unit))] W := hL
  rw [MakeChecks.laidMetH_plain _ _ _ (by kernel_rfl)] at h
  exact law_evals a A c l Ai ci inp odd W (tabS_of h) hl hi
end Go.Proofs.YtjgkcicgjnjepaaDoor
