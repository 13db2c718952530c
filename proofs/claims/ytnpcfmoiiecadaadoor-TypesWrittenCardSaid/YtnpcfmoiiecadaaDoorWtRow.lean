/- What is proved: the law TypesWritten, over what an argument gives; the table of powers of ten as the row lays it. -/
import Derived.Test.YtnpcfmoiiecadaaDoorRows
import Derived.Test.YtnpcfmoiiecadaaDoorWtLaw
import Derived.Test.YtnpcfmoiiecadaaDoorTyOpen
import Derived.Lib.LaidTab
import Derived.LaidSub
import Derived.MakeChecks
set_option linter.unusedVariables false
namespace Go.Proofs.YtnpcfmoiiecadaaDoor
open Go.RowKit Go.Shelf

theorem tab_of {W : World} (hL : laidMetH Tryd.prog Rows.typesWrittenRow.laid W) : Tab10 W := by
  have h1 := hL.filter (fun x => x.1 == "internal/strconv.uint64pow10")
  rw [show (Rows.typesWrittenRow.laid.filter fun x => x.1 == "internal/strconv.uint64pow10") = [("internal/strconv.uint64pow10", Lib.tabData .u64 Lib.pow10Tab)] from by kernel_rfl] at h1
  rw [MakeChecks.laidMetH_plain _ _ _ (by kernel_rfl)] at h1
  exact Lib.tabIs_of_head (g := 0) (t := 124) (e := 110) (n := 20) (by kernel_rfl) (by kernel_rfl) Tryd.underlying124 Tryd.underlying110 (by kernel_rfl) (by kernel_rfl) h1
theorem written_law_arg (t : TyV) (A : Option Addr) (c : Nat) (l : List RcV) (W : World) (hl : l.length ≤ 9223372036854775807) (hr : RRowW W.heap.size W A l) (hL : laidMetH Tryd.prog Rows.typesWrittenRow.laid W) :
    Calls Tryd.prog 3 #[.agg #[.int .i64 t.kind, .int .i64 t.len, .string t.nm], .slice A l.length c] W fun e w' => e = .returned (.bool true) ∧ Below W.heap.size W w' :=
  written_law t A c l W hr hl (tab_of hL)
end Go.Proofs.YtnpcfmoiiecadaaDoor
