/- What is proved: the reference's Valid; whether numbers are literals of a valid circuit, on both sides. -/
import Derived.Test.YtbcabnbgkicfdaaGaVal
import Derived.DeepKeys5
set_option linter.unusedVariables false
namespace Go.Proofs.Ytbcabnbgkicfdaa
open Go.RowKit Go.Maps

/-- two gates are compared -/
theorem gt_eq (n : Nat) {x y : Gt} (hx : GtOk x) (hy : GtOk y) (W : World) : (Op.equalIn (n + 2) 76 (.agg #[.int .i64 x.x, .int .i64 x.y]) (.agg #[.int .i64 y.x, .int .i64 y.y])).run Try.prog W = .ok (decide (x = y)) W := by
  have f1 : (.agg #[.int .i64 x.x, .int .i64 x.y] : Value).formed Try.prog 76 = true := by simp [Value.formed, Try.underlying76, pairCells]
  have f2 : (.agg #[.int .i64 y.x, .int .i64 y.y] : Value).formed Try.prog 76 = true := by simp [Value.formed, Try.underlying76, pairCells]
  obtain ⟨r, hr, hiff⟩ := run_equalIn_deep (P := Try.prog) n 2 76 (by kernel_rfl) W _ _ _ _ _ _ f1 f2 (pair_lits 0 x hx) (pair_lits 0 y hy)
  have e : r = decide (x = y) := by
    rw [Bool.eq_iff_iff, hiff, decide_eq_true_eq]
    simp
    exact ⟨fun e => Gt.ext' e.1 e.2, fun e => by rw [e]; exact ⟨rfl, rfl⟩⟩
  rw [hr, e]
end Go.Proofs.Ytbcabnbgkicfdaa
