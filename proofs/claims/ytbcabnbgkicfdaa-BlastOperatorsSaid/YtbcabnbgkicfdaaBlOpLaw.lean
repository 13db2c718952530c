/- What is proved: the law BlastOperators, for any width, two numbers and a condition. -/
import Derived.Test.YtbcabnbgkicfdaaBlOpT
import Derived.Test.YtbcabnbgkicfdaaBlOpF
set_option linter.unusedVariables false
namespace Go.Proofs.Ytbcabnbgkicfdaa
open Go.RowKit Go.Maps

set_option maxRecDepth 100000 in
set_option maxHeartbeats 4000000 in
theorem law_operators (W x y : Int) (c : Bool) (w : World) :
    Calls Try.prog 6 #[.int .i64 W, .int .i64 x, .int .i64 y, .bool c] w fun e w' => e = .returned (.bool true) ∧ Below w.heap.size w w' := by
  by_cases h : 2 ≤ W ∧ W ≤ 8
  · obtain ⟨m, rfl⟩ : ∃ m : Nat, W = (m : Int) := ⟨W.toNat, by omega⟩
    cases c with
    | true => exact ops_t m x y w (by omega)
    | false => exact ops_f m x y w (by omega)
  · have HA := Lib.hid (bawake_any w)
    have HI := fun w' => r_isWidth_any W w'
    rw [decide_eq_false h] at HI
    have HI := Lib.hid HI
    clear h
    go_enter Try.func6, Try.ntmps6
    go_wp2_with (fail)
    refine HA.out.mono ?_
    rintro e w1 ⟨rfl, hb1⟩
    have HB1 := Lib.hid hb1
    clear hb1
    go_wp2_with (fail)
    refine (HI.out _).mono ?_
    rintro e wx ⟨rfl, hwx⟩
    obtain rfl := hwx.symm
    go_wp2_with (fail)
    go_ret
    exact ⟨rfl, HB1.out⟩
end Go.Proofs.Ytbcabnbgkicfdaa
