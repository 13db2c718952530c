/- What is proved: Wrap, Least, Greatest and isScalar of value. -/
import Derived.Test.YtoopnddlcofhoaaGreatDoorVaPlain
import Derived.Laws.Shifts
set_option linter.unusedVariables false
namespace Go.Proofs.YtoopnddlcofhoaaGreatDoor
open Go.RowKit

theorem possible_any (W : Int) (w : World) : Calls Tryz.prog 14 #[.int .i64 W] w fun e w' => e = .returned (.bool (decide (2 ≤ W ∧ W ≤ 8))) ∧ w' = w := by
  go_enter Tryz.func14, Tryz.ntmps14
  by_cases h : 2 ≤ W
  · have h1 : decide (2 ≤ W) = true := by simpa using h
    go_wp2_with (fail)
    go_ret
    simp [h]
  · have h1 : decide (2 ≤ W) = false := by simpa using h
    go_wp2_with (fail)
    go_ret
    simp

theorem wrap_any (W n : Int) (hW : IntKind.i64.wrap W = W) (w : World) : Calls Tryz.prog 23 #[.int .i64 W, .int .i64 n] w fun e w' => e = .returned (.int .i64 (wrpP W n)) ∧ w' = w := by
  have HP := Lib.hid (possible_any W w)
  by_cases h : W < 2 ∨ 8 < W
  · have h0 : decide (2 ≤ W ∧ W ≤ 8) = false := by rw [decide_eq_false_iff_not]; omega
    rw [h0] at HP
    have H := Lib.hid h
    clear h h0
    go_enter Tryz.func23, Tryz.ntmps23
    go_wp2_with (fail)
    refine HP.out.mono ?_
    rintro e w1 ⟨rfl, rfl⟩
    go_wp2_with (fail)
    go_ret
    refine ⟨?_, rfl⟩
    unfold wrpP cut
    rw [hf_out H.out, if_pos rfl]
    rfl
  · have h0 : decide (2 ≤ W ∧ W ≤ 8) = true := by rw [decide_eq_true_iff]; omega
    rw [h0] at HP
    have H := Lib.hid h
    have h1 : 0 ≤ 64 - W := by omega
    have h2 : IntKind.i64.wrap (64 - W) = 64 - W := by simp [IntKind.wrap, IntKind.bits, IntKind.signed]; omega
    have h3 := shift_cut W n h
    obtain ⟨m, hm⟩ : ∃ m, IntKind.i64.wrap (n * 2 ^ min (64 - W).toNat 64) = m := ⟨_, rfl⟩
    rw [hm] at h3
    have HS1 : ∀ w', (Op.shift BinOp.shl IntKind.i64 n IntKind.i64 (64 - W)).run Tryz.prog w' = .ok (.int .i64 m) w' := fun w' => by
      rw [shift_shl_any _ _ _ _ h1, show IntKind.i64.bits = 64 from rfl, hm]; rfl
    have HS2 : ∀ w', (Op.shift BinOp.shr IntKind.i64 m IntKind.i64 (64 - W)).run Tryz.prog w' = .ok (.int .i64 (wrpP W n)) w' := fun w' => by
      rw [shift_shr_any _ _ _ _ h1, show IntKind.i64.bits = 64 from rfl, h3]; rfl
    clear h h0 h3 hm
    go_enter Tryz.func23, Tryz.ntmps23
    go_wp2_with (fail)
    refine HP.out.mono ?_
    rintro e w1 ⟨rfl, rfl⟩
    go_wp2_with (fail)
    go_ret
    exact ⟨rfl, rfl⟩

theorem scalar_any (W n : Int) (t : Bool) (hW : IntKind.i64.wrap W = W) (w : World) : Calls Tryz.prog 17 #[.int .i64 W, .bool t, .int .i64 n] w fun e w' => e = .returned (.bool (scB W t n)) ∧ w' = w := by
  have HP := Lib.hid (wrap_any W n hW w)
  cases t with
  | true =>
    by_cases h : n = 0
    · subst h
      go_enter Tryz.func17, Tryz.ntmps17
      go_wp2_with (fail)
      go_ret
      exact ⟨rfl, rfl⟩
    · have h1 : (n == 0) = false := by simpa using h
      go_enter Tryz.func17, Tryz.ntmps17
      go_wp2_with (fail)
      go_ret
      exact ⟨by simp [scB, h], rfl⟩
  | false =>
    go_enter Tryz.func17, Tryz.ntmps17
    go_wp2_with (fail)
    refine HP.out.mono ?_
    rintro e w1 ⟨rfl, rfl⟩
    go_wp2_with (fail)
    go_ret
    exact ⟨rfl, rfl⟩

theorem shift_low (W : Int) (h : ¬ (W < 2 ∨ 8 < W)) : IntKind.i64.wrap (-1 * 2 ^ min (W - 1).toNat 64) = loP W := by
  have : W = 2 ∨ W = 3 ∨ W = 4 ∨ W = 5 ∨ W = 6 ∨ W = 7 ∨ W = 8 := by omega
  rcases this with rfl | rfl | rfl | rfl | rfl | rfl | rfl <;> decide +kernel
theorem shift_high (W : Int) (h : ¬ (W < 2 ∨ 8 < W)) : IntKind.i64.wrap (IntKind.i64.wrap (1 * 2 ^ min (W - 1).toNat 64) - 1) = hiP W := by
  have : W = 2 ∨ W = 3 ∨ W = 4 ∨ W = 5 ∨ W = 6 ∨ W = 7 ∨ W = 8 := by omega
  rcases this with rfl | rfl | rfl | rfl | rfl | rfl | rfl <;> decide +kernel

end Go.Proofs.YtoopnddlcofhoaaGreatDoor
