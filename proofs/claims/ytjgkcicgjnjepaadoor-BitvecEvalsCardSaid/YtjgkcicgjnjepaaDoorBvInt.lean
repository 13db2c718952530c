/- What is proved: Wrap, Divide and the small functions of bitvec on numbers. -/
import Derived.Test.YtjgkcicgjnjepaaDoorBvMem
import Derived.Laws.Shifts
set_option linter.unusedVariables false
namespace Go.Proofs.YtjgkcicgjnjepaaDoor
open Go.RowKit

theorem wok_yes {W : Int} (h : ¬ (W < 2 ∨ 8 < W)) : decide (2 ≤ W ∧ W ≤ 8) = true := by rw [decide_eq_true_iff]; omega
theorem wok_no {W : Int} (h : W < 2 ∨ 8 < W) : decide (2 ≤ W ∧ W ≤ 8) = false := by rw [decide_eq_false_iff_not]; omega
theorem isWidth_any (W : Int) (w : World) : Calls Tryd.prog 33 #[.int .i64 W] w fun e w' => e = .returned (.bool (decide (2 ≤ W ∧ W ≤ 8))) ∧ w' = w := by
  go_enter Tryd.func33, Tryd.ntmps33
  by_cases h : 2 ≤ W
  · have h1 : decide (2 ≤ W) = true := by simpa using h
    go_wp2_with (fail)
    go_ret
    simp [h]
  · have h1 : decide (2 ≤ W) = false := by simpa using h
    go_wp2_with (fail)
    go_ret
    simp

theorem wrap_any (W n : Int) (hW : IntKind.i64.wrap W = W) (w : World) : Calls Tryd.prog 20 #[.int .i64 W, .int .i64 n] w fun e w' => e = .returned (.int .i64 (wrpP W n)) ∧ w' = w := by
  have HP := Lib.hid (isWidth_any W w)
  by_cases h : W < 2 ∨ 8 < W
  · rw [wok_no h] at HP
    have H := Lib.hid h
    clear h
    go_enter Tryd.func20, Tryd.ntmps20
    go_wp2_with (fail)
    refine HP.out.mono ?_
    rintro e w1 ⟨rfl, rfl⟩
    go_wp2_with (fail)
    go_ret
    refine ⟨?_, rfl⟩
    unfold wrpP cut
    rw [hf_out H.out, if_pos rfl]
    rfl
  · rw [wok_yes h] at HP
    have H := Lib.hid h
    have h1 : 0 ≤ 64 - W := by omega
    have h2 : IntKind.i64.wrap (64 - W) = 64 - W := by simp [IntKind.wrap, IntKind.bits, IntKind.signed]; omega
    have h3 := shift_cut W n h
    obtain ⟨m, hm⟩ : ∃ m, IntKind.i64.wrap (n * 2 ^ min (64 - W).toNat 64) = m := ⟨_, rfl⟩
    rw [hm] at h3
    have HS1 : ∀ w', (Op.shift BinOp.shl IntKind.i64 n IntKind.i64 (64 - W)).run Tryd.prog w' = .ok (.int .i64 m) w' := fun w' => by
      rw [shift_shl_any _ _ _ _ h1, show IntKind.i64.bits = 64 from rfl, hm]; rfl
    have HS2 : ∀ w', (Op.shift BinOp.shr IntKind.i64 m IntKind.i64 (64 - W)).run Tryd.prog w' = .ok (.int .i64 (wrpP W n)) w' := fun w' => by
      rw [shift_shr_any _ _ _ _ h1, show IntKind.i64.bits = 64 from rfl, h3]; rfl
    clear h h3 hm
    go_enter Tryd.func20, Tryd.ntmps20
    go_wp2_with (fail)
    refine HP.out.mono ?_
    rintro e w1 ⟨rfl, rfl⟩
    go_wp2_with (fail)
    go_ret
    exact ⟨rfl, rfl⟩

/-- the quotient and the remainder -/
def divQ (W a b : Int) : Int := if wrpP W b = 0 then 0 else wrpP W ((wrpP W a).tdiv (wrpP W b))
def divR (W a b : Int) : Int := if wrpP W b = 0 then wrpP W a else (wrpP W a).tmod (wrpP W b)
theorem tdiv_small {a b : Int} (ha : -128 ≤ a ∧ a ≤ 127) : -128 ≤ a.tdiv b ∧ a.tdiv b ≤ 128 := by
  have hn : (a.tdiv b).natAbs ≤ a.natAbs := by
    rw [Int.natAbs_tdiv]
    exact Nat.div_le_self _ _
  omega
theorem tmod_small {a b : Int} (ha : -128 ≤ a ∧ a ≤ 127) : -128 ≤ a.tmod b ∧ a.tmod b ≤ 128 := by
  have hn : (a.tmod b).natAbs ≤ a.natAbs := by
    rw [Int.natAbs_tmod]
    exact Nat.mod_le _ _
  omega
theorem w64 {n : Int} (h : -9223372036854775808 ≤ n ∧ n ≤ 9223372036854775807) : IntKind.i64.wrap n = n := by simp [IntKind.wrap, IntKind.bits, IntKind.signed]; omega
theorem divide_any (W a b : Int) (hW : IntKind.i64.wrap W = W) (w : World) : Calls Tryd.prog 18 #[.int .i64 W, .int .i64 a, .int .i64 b] w fun e w' => e = .returned (.tuple #[.int .i64 (divQ W a b), .int .i64 (divR W a b)]) ∧ ∃ m, w' = w.drewN m := by
  have HA := Lib.hid (fun w => wrap_any W a hW w)
  have HB := Lib.hid (fun w => wrap_any W b hW w)
  have ba := wrp_bound W a
  have hq : -128 ≤ (wrpP W a).tdiv (wrpP W b) ∧ (wrpP W a).tdiv (wrpP W b) ≤ 128 := tdiv_small ba
  have hr : -128 ≤ (wrpP W a).tmod (wrpP W b) ∧ (wrpP W a).tmod (wrpP W b) ≤ 128 := tmod_small ba
  by_cases h : wrpP W b = 0
  · have HQ := Lib.hid (show divQ W a b = 0 from if_pos h)
    have HR := Lib.hid (show divR W a b = wrpP W a from if_pos h)
    rw [h] at HB
    clear h hq hr ba
    go_enter Tryd.func18, Tryd.ntmps18
    go_wp2_with (fail)
    refine (HA.out _).mono ?_
    rintro e w1 ⟨rfl, rfl⟩
    go_wp2_with (fail)
    refine (HB.out _).mono ?_
    rintro e w2 ⟨rfl, h2⟩
    obtain rfl := h2.symm
    go_wp2_with (fail)
    go_ret2
    rw [HQ.out, HR.out]
    exact ⟨rfl, 0, rfl⟩
  · have HQ := Lib.hid (show divQ W a b = wrpP W ((wrpP W a).tdiv (wrpP W b)) from if_neg h)
    have HR := Lib.hid (show divR W a b = (wrpP W a).tmod (wrpP W b) from if_neg h)
    have h0 : (wrpP W b == 0) = false := by simpa using h
    have wq := w64 (n := (wrpP W a).tdiv (wrpP W b)) (by omega)
    have wr := w64 (n := (wrpP W a).tmod (wrpP W b)) (by omega)
    have HC := Lib.hid (fun w => wrap_any W ((wrpP W a).tdiv (wrpP W b)) hW w)
    generalize wrpP W a = x at *
    generalize wrpP W b = y at *
    clear hq hr ba
    go_enter Tryd.func18, Tryd.ntmps18
    go_wp2_with (fail)
    refine (HA.out _).mono ?_
    rintro e w1 ⟨rfl, rfl⟩
    go_wp2_with (fail)
    refine (HB.out _).mono ?_
    rintro e w2 ⟨rfl, h2⟩
    obtain rfl := h2.symm
    go_wp2_with (fail)
    go_quiet ((go_at_call 20; exact Calls.quiet_of_same (HC.out _)))
    go_wp2_with (fail)
    go_ret2
    rw [HQ.out, HR.out]
    exact ⟨rfl, nq, rfl⟩
theorem isTruth_any (n : Int) (w : World) : Calls Tryd.prog 38 #[.int .i64 n] w fun e w' => e = .returned (.bool (n == 0 || n == 1)) ∧ w' = w := by
  by_cases h : n = 0
  · subst h
    go_enter Tryd.func38, Tryd.ntmps38
    go_wp2_with (fail)
    go_ret
    exact ⟨rfl, rfl⟩
  · have h1 : (n == 0) = false := by simpa using h
    go_enter Tryd.func38, Tryd.ntmps38
    go_wp2_with (fail)
    go_ret
    exact ⟨by simp [h], rfl⟩
theorem truth_any (b : Bool) (w : World) : Calls Tryd.prog 40 #[.bool b] w fun e w' => e = .returned (.int .i64 (bt b)) ∧ w' = w := by
  cases b with
  | true =>
    go_enter Tryd.func40, Tryd.ntmps40
    go_wp2_with (fail)
    go_ret
    exact ⟨rfl, rfl⟩
  | false =>
    go_enter Tryd.func40, Tryd.ntmps40
    go_wp2_with (fail)
    go_ret
    exact ⟨rfl, rfl⟩
end Go.Proofs.YtjgkcicgjnjepaaDoor
