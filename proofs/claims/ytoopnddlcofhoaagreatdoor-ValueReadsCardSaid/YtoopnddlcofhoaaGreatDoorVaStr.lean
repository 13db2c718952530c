/- What is proved: the library's texts of small numbers and of bools; the brackets of a value. -/
import Derived.Test.YtoopnddlcofhoaaGreatDoorVaRow
set_option linter.unusedVariables false
namespace Go.Proofs.YtoopnddlcofhoaaGreatDoor
open Go.RowKit

theorem itoa_0 (w : World) : Calls Tryz.prog 24 #[.int .i64 0] w fun e w' => e = .returned (.string ⟨#[48]⟩) ∧ w' = w := by
  go_enter Tryz.func24, Tryz.ntmps24
  go_wp2_with (go_in)
  go_ret
  exact ⟨rfl, rfl⟩
theorem itoa_1 (w : World) : Calls Tryz.prog 24 #[.int .i64 1] w fun e w' => e = .returned (.string ⟨#[49]⟩) ∧ w' = w := by
  go_enter Tryz.func24, Tryz.ntmps24
  go_wp2_with (go_in)
  go_ret
  exact ⟨rfl, rfl⟩
theorem fbool_any (b : Bool) (w : World) : Calls Tryz.prog 25 #[.bool b] w fun e w' => e = .returned (.string (if b then ⟨#[116, 114, 117, 101]⟩ else ⟨#[102, 97, 108, 115, 101]⟩)) ∧ w' = w := by
  cases b with
  | true =>
    go_enter Tryz.func25, Tryz.ntmps25
    go_wp2_with (go_in)
    go_ret
    exact ⟨rfl, rfl⟩
  | false =>
    go_enter Tryz.func25, Tryz.ntmps25
    go_wp2_with (go_in)
    go_ret
    exact ⟨rfl, rfl⟩
end Go.Proofs.YtoopnddlcofhoaaGreatDoor
