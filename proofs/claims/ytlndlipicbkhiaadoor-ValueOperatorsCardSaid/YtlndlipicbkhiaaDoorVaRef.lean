/- What is proved: the reference's Width, power, Wrap, Least, Greatest and its checks of scalars. -/
import Derived.Test.YtlndlipicbkhiaaDoorVaBin
set_option linter.unusedVariables false
namespace Go.Proofs.YtlndlipicbkhiaaDoor
open Go.RowKit

theorem r_width_any (W : Int) (w : World) : Calls Tryd.prog 28 #[.int .i64 W] w fun e w' => e = .returned (.bool (decide (2 ≤ W ∧ W ≤ 8))) ∧ w' = w := by
  go_enter Tryd.func28, Tryd.ntmps28
  by_cases h : 2 ≤ W
  · have h1 : decide (2 ≤ W) = true := by simpa using h
    go_wp2_with (fail)
    go_ret
    simp [h]
  · have h1 : decide (2 ≤ W) = false := by simpa using h
    go_wp2_with (fail)
    go_ret
    simp

theorem pow_two (n : Nat) : (2 : Int) * 2 ^ n = 2 ^ (n + 1) := by rw [Int.pow_succ, Int.mul_comm]
theorem pow_small {n : Nat} (h : n ≤ 8) : (1 : Int) ≤ 2 ^ n ∧ (2 : Int) ^ n ≤ 256 := by
  have : n = 0 ∨ n = 1 ∨ n = 2 ∨ n = 3 ∨ n = 4 ∨ n = 5 ∨ n = 6 ∨ n = 7 ∨ n = 8 := by omega
  rcases this with rfl | rfl | rfl | rfl | rfl | rfl | rfl | rfl | rfl <;> decide

theorem r_power_any (n : Nat) (hn : n ≤ 8) (w : World) : Calls Tryd.prog 35 #[.int .i64 (n : Int)] w fun e w' => e = .returned (.int .i64 (2 ^ n)) ∧ w' = w := by
  go_enter Tryd.func35, Tryd.ntmps35
  go_wp2_with (fail)
  go_loop [3, 4] (fun x i => ∃ (k : Nat) (p : Int), k ≤ n ∧ i = .int .i64 (k : Int) ∧ x = .int .i64 p ∧ Hid (p = 2 ^ k)) (fun _ i => n - (intOf i).toNat)
  case atStart => exact ⟨0, 1, Nat.zero_le _, rfl, rfl, Lib.hid rfl⟩
  case round =>
    obtain ⟨k, p, hk, rfl, rfl, hp⟩ := hrel
    by_cases hlt : k < n
    · have HP := Lib.hid (show 2 * p = 2 ^ (k + 1) by rw [hp.out, pow_two])
      have hb : 1 ≤ p ∧ p ≤ 256 := by have := pow_small (n := k) (by omega); rw [hp.out]; exact this
      have hw : IntKind.i64.wrap (2 * p) = 2 * p := by simp [IntKind.wrap, IntKind.bits, IntKind.signed]; omega
      go_wp2_with (fail)
      exact ⟨⟨k + 1, 2 * p, by omega, by go_num, by first | rfl | go_num, HP⟩, by simp [intOf]; omega⟩
    · obtain rfl : k = n := by omega
      go_wp2_with (fail)
      go_ret
      exact ⟨by rw [← hp.out]; rfl, rfl⟩

theorem hf_pow {W : Int} (h : ¬ (W < 2 ∨ 8 < W)) : (2 : Int) ^ (W - 1).toNat = hf W ∧ (2 : Int) ^ W.toNat = 2 * hf W := by
  have : W = 2 ∨ W = 3 ∨ W = 4 ∨ W = 5 ∨ W = 6 ∨ W = 7 ∨ W = 8 := by omega
  rcases this with rfl | rfl | rfl | rfl | rfl | rfl | rfl <;> decide
theorem r_half_any (W : Int) (h : ¬ (W < 2 ∨ 8 < W)) (w : World) : Calls Tryd.prog 35 #[.int .i64 (W - 1)] w fun e w' => e = .returned (.int .i64 (hf W)) ∧ w' = w := by
  have H := r_power_any (W - 1).toNat (by omega) w
  rw [(hf_pow h).1, show (((W - 1).toNat : Nat) : Int) = W - 1 by omega] at H
  exact H
theorem r_full_any (W : Int) (h : ¬ (W < 2 ∨ 8 < W)) (w : World) : Calls Tryd.prog 35 #[.int .i64 W] w fun e w' => e = .returned (.int .i64 (2 * hf W)) ∧ w' = w := by
  have H := r_power_any W.toNat (by omega) w
  rw [(hf_pow h).2, show ((W.toNat : Nat) : Int) = W by omega] at H
  exact H
theorem hf_bound {W : Int} (h : ¬ (W < 2 ∨ 8 < W)) : 2 ≤ hf W ∧ hf W ≤ 128 := by
  rcases hf_cases W with ⟨h1, _⟩ | h1
  · exact absurd h1 h
  · omega
theorem wok_yes {W : Int} (h : ¬ (W < 2 ∨ 8 < W)) : decide (2 ≤ W ∧ W ≤ 8) = true := by rw [decide_eq_true_iff]; omega
theorem wok_no {W : Int} (h : W < 2 ∨ 8 < W) : decide (2 ≤ W ∧ W ≤ 8) = false := by rw [decide_eq_false_iff_not]; omega

theorem r_least_any (W : Int) (w : World) : Calls Tryd.prog 15 #[.int .i64 W] w fun e w' => e = .returned (.int .i64 (loP W)) ∧ w' = w := by
  have HP := Lib.hid (r_width_any W w)
  by_cases h : W < 2 ∨ 8 < W
  · rw [wok_no h] at HP
    have H := Lib.hid h
    clear h
    go_enter Tryd.func15, Tryd.ntmps15
    go_wp2_with (fail)
    refine HP.out.mono ?_
    rintro e w1 ⟨rfl, rfl⟩
    go_wp2_with (fail)
    go_ret
    refine ⟨?_, rfl⟩
    unfold loP
    rw [hf_out H.out]
    rfl
  · rw [wok_yes h] at HP
    have HH := Lib.hid (fun w => r_half_any W h w)
    have hb := hf_bound h
    have h2 : IntKind.i64.wrap (W - 1) = W - 1 := by simp [IntKind.wrap, IntKind.bits, IntKind.signed]; omega
    have h3 : IntKind.i64.wrap (-hf W) = -hf W := by simp [IntKind.wrap, IntKind.bits, IntKind.signed]; omega
    have HL := Lib.hid (show loP W = -hf W from rfl)
    generalize hf W = q at *
    clear h
    go_enter Tryd.func15, Tryd.ntmps15
    go_wp2_with (fail)
    refine HP.out.mono ?_
    rintro e w1 ⟨rfl, rfl⟩
    go_wp2_with (fail)
    refine (HH.out _).mono ?_
    rintro e w1 ⟨rfl, rfl⟩
    go_wp2_with (fail)
    go_ret
    exact ⟨by rw [HL.out]; rfl, rfl⟩
theorem r_greatest_any (W : Int) (w : World) : Calls Tryd.prog 17 #[.int .i64 W] w fun e w' => e = .returned (.int .i64 (hiP W)) ∧ w' = w := by
  have HP := Lib.hid (r_width_any W w)
  by_cases h : W < 2 ∨ 8 < W
  · rw [wok_no h] at HP
    have H := Lib.hid h
    clear h
    go_enter Tryd.func17, Tryd.ntmps17
    go_wp2_with (fail)
    refine HP.out.mono ?_
    rintro e w1 ⟨rfl, rfl⟩
    go_wp2_with (fail)
    go_ret
    refine ⟨?_, rfl⟩
    unfold hiP
    rw [hf_out H.out, if_pos rfl]
    rfl
  · rw [wok_yes h] at HP
    have HH := Lib.hid (fun w => r_half_any W h w)
    have hb := hf_bound h
    have h2 : IntKind.i64.wrap (W - 1) = W - 1 := by simp [IntKind.wrap, IntKind.bits, IntKind.signed]; omega
    have h3 : IntKind.i64.wrap (hf W - 1) = hf W - 1 := by simp [IntKind.wrap, IntKind.bits, IntKind.signed]; omega
    have HL := Lib.hid (show hiP W = hf W - 1 from if_neg (hf_in h))
    generalize hf W = q at *
    clear h
    go_enter Tryd.func17, Tryd.ntmps17
    go_wp2_with (fail)
    refine HP.out.mono ?_
    rintro e w1 ⟨rfl, rfl⟩
    go_wp2_with (fail)
    refine (HH.out _).mono ?_
    rintro e w1 ⟨rfl, rfl⟩
    go_wp2_with (fail)
    go_ret
    exact ⟨by rw [HL.out]; rfl, rfl⟩

theorem ref_cut (W n : Int) (h : ¬ (W < 2 ∨ 8 < W)) : wrpP W n = (if n.tmod (2 * hf W) < -hf W then n.tmod (2 * hf W) + 2 * hf W else if hf W - 1 < n.tmod (2 * hf W) then n.tmod (2 * hf W) - 2 * hf W else n.tmod (2 * hf W)) ∧ -300 ≤ n.tmod (2 * hf W) ∧ n.tmod (2 * hf W) ≤ 300 := by
  unfold wrpP cut
  rcases hf_cases W with ⟨h1, _⟩ | ⟨_, e⟩ | ⟨_, e⟩ | ⟨_, e⟩ | ⟨_, e⟩ | ⟨_, e⟩ | ⟨_, e⟩ | ⟨_, e⟩
  · exact absurd h1 h
  all_goals
    rw [e, Int.tmod_eq_emod]
    simp only [Int.reduceMul, Int.reduceNeg, Int.reduceSub, Int.reduceEq, if_false]
    split
    · refine ⟨?_, by omega⟩
      (repeat' split) <;> omega
    · refine ⟨?_, by simp only [Int.natAbs]; omega⟩
      (repeat' split) <;> omega
end Go.Proofs.YtlndlipicbkhiaaDoor
