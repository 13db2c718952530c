/- What is proved: the laws BitvecWraps and BitvecDivides, over the example's contract. -/
import Derived.Test.YtjgkcicgjnjepaaDoorBvAwake
set_option linter.unusedVariables false
namespace Go.Proofs.YtjgkcicgjnjepaaDoor
open Go.RowKit Go.Maps

theorem r_isWidth_any (W : Int) (w : World) : Calls Tryd.prog 5 #[.int .i64 W] w fun e w' => e = .returned (.bool (decide (2 ≤ W ∧ W ≤ 8))) ∧ w' = w := by
  go_enter Tryd.func5, Tryd.ntmps5
  by_cases h : 2 ≤ W
  · have h1 : decide (2 ≤ W) = true := by simpa using h
    go_wp2_with (fail)
    go_ret
    simp [h]
  · have h1 : decide (2 ≤ W) = false := by simpa using h
    go_wp2_with (fail)
    go_ret
    simp
theorem wrp_out {W : Int} (h : W < 2 ∨ 8 < W) (n : Int) : wrpP W n = 0 := by
  unfold wrpP cut
  rw [hf_out h, if_pos rfl]
def VYes (w : World) (e : Ending) (w' : World) : Prop := e = .returned (.bool true) ∧ Below w.heap.size w w'
theorem shl_low {W : Int} (h : ¬ (W < 2 ∨ 8 < W)) : IntKind.i64.wrap (-1 * 2 ^ min (W - 1).toNat 64) = -hf W := by
  have : W = 2 ∨ W = 3 ∨ W = 4 ∨ W = 5 ∨ W = 6 ∨ W = 7 ∨ W = 8 := by omega
  rcases this with rfl | rfl | rfl | rfl | rfl | rfl | rfl <;> decide +kernel
theorem shl_high {W : Int} (h : ¬ (W < 2 ∨ 8 < W)) : IntKind.i64.wrap (1 * 2 ^ min (W - 1).toNat 64) = hf W := by
  have : W = 2 ∨ W = 3 ∨ W = 4 ∨ W = 5 ∨ W = 6 ∨ W = 7 ∨ W = 8 := by omega
  rcases this with rfl | rfl | rfl | rfl | rfl | rfl | rfl <;> decide +kernel
theorem shl_full {W : Int} (h : ¬ (W < 2 ∨ 8 < W)) : IntKind.i64.wrap (1 * 2 ^ min W.toNat 64) = 2 * hf W := by
  have : W = 2 ∨ W = 3 ∨ W = 4 ∨ W = 5 ∨ W = 6 ∨ W = 7 ∨ W = 8 := by omega
  rcases this with rfl | rfl | rfl | rfl | rfl | rfl | rfl <;> decide +kernel
theorem wrp_neg (W n : Int) (h : ¬ (W < 2 ∨ 8 < W)) : wrpP W (-wrpP W n) = wrpP W (-n) := by
  obtain ⟨k, hk⟩ := wrp_diff W n h
  exact wrp_cong W _ _ (-k) h (by rw [hk, Int.mul_neg]; omega)
end Go.Proofs.YtjgkcicgjnjepaaDoor
