/- What is proved: Wrap and Divide of package bitvec, IsWidth and Wrap of its reference. -/
import Derived.Test.YtbcabnbgkicfdaaBlWds
import Derived.Test.YtbcabnbgkicfdaaBvW
import Derived.Laws.Shifts
set_option linter.unusedVariables false
namespace Go.Proofs.Ytbcabnbgkicfdaa
open Go.RowKit Go.Maps

theorem wok_yes {W : Int} (h : ¬ (W < 2 ∨ 8 < W)) : decide (2 ≤ W ∧ W ≤ 8) = true := by rw [decide_eq_true_iff]; omega
theorem wok_no {W : Int} (h : W < 2 ∨ 8 < W) : decide (2 ≤ W ∧ W ≤ 8) = false := by rw [decide_eq_false_iff_not]; omega
theorem isWidth_any (W : Int) (w : World) : Calls Try.prog 69 #[.int .i64 W] w fun e w' => e = .returned (.bool (decide (2 ≤ W ∧ W ≤ 8))) ∧ w' = w := by
  go_enter Try.func69, Try.ntmps69
  by_cases h : 2 ≤ W
  · have h1 : decide (2 ≤ W) = true := by simpa using h
    go_wp2_with (fail)
    go_ret
    simp [h]
  · have h1 : decide (2 ≤ W) = false := by simpa using h
    go_wp2_with (fail)
    go_ret
    simp

theorem wrap_any (W n : Int) (hW : IntKind.i64.wrap W = W) (w : World) : Calls Try.prog 33 #[.int .i64 W, .int .i64 n] w fun e w' => e = .returned (.int .i64 (wrpP W n)) ∧ w' = w := by
  have HP := Lib.hid (isWidth_any W w)
  by_cases h : W < 2 ∨ 8 < W
  · rw [wok_no h] at HP
    have H := Lib.hid h
    clear h
    go_enter Try.func33, Try.ntmps33
    go_wp2_with (fail)
    refine HP.out.mono ?_
    rintro e w1 ⟨rfl, rfl⟩
    go_wp2_with (fail)
    go_ret
    refine ⟨?_, rfl⟩
    unfold wrpP cut
    rw [hf_out H.out, if_pos rfl]
    rfl
  · rw [wok_yes h] at HP
    have H := Lib.hid h
    have h1 : 0 ≤ 64 - W := by omega
    have h2 : IntKind.i64.wrap (64 - W) = 64 - W := by simp [IntKind.wrap, IntKind.bits, IntKind.signed]; omega
    have h3 := shift_cut W n h
    obtain ⟨m, hm⟩ : ∃ m, IntKind.i64.wrap (n * 2 ^ min (64 - W).toNat 64) = m := ⟨_, rfl⟩
    rw [hm] at h3
    have HS1 : ∀ w', (Op.shift BinOp.shl IntKind.i64 n IntKind.i64 (64 - W)).run Try.prog w' = .ok (.int .i64 m) w' := fun w' => by
      rw [shift_shl_any _ _ _ _ h1, show IntKind.i64.bits = 64 from rfl, hm]; rfl
    have HS2 : ∀ w', (Op.shift BinOp.shr IntKind.i64 m IntKind.i64 (64 - W)).run Try.prog w' = .ok (.int .i64 (wrpP W n)) w' := fun w' => by
      rw [shift_shr_any _ _ _ _ h1, show IntKind.i64.bits = 64 from rfl, h3]; rfl
    clear h h3 hm
    go_enter Try.func33, Try.ntmps33
    go_wp2_with (fail)
    refine HP.out.mono ?_
    rintro e w1 ⟨rfl, rfl⟩
    go_wp2_with (fail)
    go_ret
    exact ⟨rfl, rfl⟩

/-- the quotient and the remainder -/
def divQ (W a b : Int) : Int := if wrpP W b = 0 then 0 else wrpP W ((wrpP W a).tdiv (wrpP W b))
def divR (W a b : Int) : Int := if wrpP W b = 0 then wrpP W a else (wrpP W a).tmod (wrpP W b)
theorem tdiv_small {a b : Int} (ha : -128 ≤ a ∧ a ≤ 127) : -128 ≤ a.tdiv b ∧ a.tdiv b ≤ 128 := by
  have hn : (a.tdiv b).natAbs ≤ a.natAbs := by
    rw [Int.natAbs_tdiv]
    exact Nat.div_le_self _ _
  omega
theorem tmod_small {a b : Int} (ha : -128 ≤ a ∧ a ≤ 127) : -128 ≤ a.tmod b ∧ a.tmod b ≤ 128 := by
  have hn : (a.tmod b).natAbs ≤ a.natAbs := by
    rw [Int.natAbs_tmod]
    exact Nat.mod_le _ _
  omega
theorem w64 {n : Int} (h : -9223372036854775808 ≤ n ∧ n ≤ 9223372036854775807) : IntKind.i64.wrap n = n := by simp [IntKind.wrap, IntKind.bits, IntKind.signed]; omega
theorem divide_any (W a b : Int) (hW : IntKind.i64.wrap W = W) (w : World) : Calls Try.prog 34 #[.int .i64 W, .int .i64 a, .int .i64 b] w fun e w' => e = .returned (.tuple #[.int .i64 (divQ W a b), .int .i64 (divR W a b)]) ∧ ∃ m, w' = w.drewN m := by
  have HA := Lib.hid (fun w => wrap_any W a hW w)
  have HB := Lib.hid (fun w => wrap_any W b hW w)
  have ba := wrp_bound W a
  have hq : -128 ≤ (wrpP W a).tdiv (wrpP W b) ∧ (wrpP W a).tdiv (wrpP W b) ≤ 128 := tdiv_small ba
  have hr : -128 ≤ (wrpP W a).tmod (wrpP W b) ∧ (wrpP W a).tmod (wrpP W b) ≤ 128 := tmod_small ba
  by_cases h : wrpP W b = 0
  · have HQ := Lib.hid (show divQ W a b = 0 from if_pos h)
    have HR := Lib.hid (show divR W a b = wrpP W a from if_pos h)
    rw [h] at HB
    clear h hq hr ba
    go_enter Try.func34, Try.ntmps34
    go_wp2_with (fail)
    refine (HA.out _).mono ?_
    rintro e w1 ⟨rfl, rfl⟩
    go_wp2_with (fail)
    refine (HB.out _).mono ?_
    rintro e w2 ⟨rfl, h2⟩
    obtain rfl := h2.symm
    go_wp2_with (fail)
    go_ret2
    rw [HQ.out, HR.out]
    exact ⟨rfl, 0, rfl⟩
  · have HQ := Lib.hid (show divQ W a b = wrpP W ((wrpP W a).tdiv (wrpP W b)) from if_neg h)
    have HR := Lib.hid (show divR W a b = (wrpP W a).tmod (wrpP W b) from if_neg h)
    have h0 : (wrpP W b == 0) = false := by simpa using h
    have wq := w64 (n := (wrpP W a).tdiv (wrpP W b)) (by omega)
    have wr := w64 (n := (wrpP W a).tmod (wrpP W b)) (by omega)
    have HC := Lib.hid (fun w => wrap_any W ((wrpP W a).tdiv (wrpP W b)) hW w)
    generalize wrpP W a = x at *
    generalize wrpP W b = y at *
    clear hq hr ba
    go_enter Try.func34, Try.ntmps34
    go_wp2_with (fail)
    refine (HA.out _).mono ?_
    rintro e w1 ⟨rfl, rfl⟩
    go_wp2_with (fail)
    refine (HB.out _).mono ?_
    rintro e w2 ⟨rfl, h2⟩
    obtain rfl := h2.symm
    go_wp2_with (fail)
    go_quiet ((go_at_call 33; exact Calls.quiet_of_same (HC.out _)))
    go_wp2_with (fail)
    go_ret2
    rw [HQ.out, HR.out]
    exact ⟨rfl, nq, rfl⟩
theorem r_isWidth_any (W : Int) (w : World) : Calls Try.prog 32 #[.int .i64 W] w fun e w' => e = .returned (.bool (decide (2 ≤ W ∧ W ≤ 8))) ∧ w' = w := by
  go_enter Try.func32, Try.ntmps32
  by_cases h : 2 ≤ W
  · have h1 : decide (2 ≤ W) = true := by simpa using h
    go_wp2_with (fail)
    go_ret
    simp [h]
  · have h1 : decide (2 ≤ W) = false := by simpa using h
    go_wp2_with (fail)
    go_ret
    simp
theorem shl_64 {W : Int} (h : ¬ (W < 2 ∨ 8 < W)) : wrap64 (2 ^ min W.toNat 64) = 2 * hf W := by
  have : W = 2 ∨ W = 3 ∨ W = 4 ∨ W = 5 ∨ W = 6 ∨ W = 7 ∨ W = 8 := by omega
  rcases this with rfl | rfl | rfl | rfl | rfl | rfl | rfl <;> decide +kernel
set_option maxRecDepth 100000 in
set_option maxHeartbeats 2000000 in
theorem r_wrap_any (W n : Int) (h : ¬ (W < 2 ∨ 8 < W)) (w : World) : Calls Try.prog 65 #[.int .i64 W, .int .i64 n] w fun e w' => e = .returned (.int .i64 (wrpP W n)) ∧ w' = w := by
  have HIW := Lib.hid (fun w => r_isWidth_any W w)
  rw [wok_yes h] at HIW
  obtain ⟨hc, hlo, hhi⟩ := ref_cut W n h
  have HR := Lib.hid hc
  have hb := hf_bound h
  have h11 : 0 ≤ W := by omega
  have hsh := shl_64 h
  have q0 : (2 * hf W == 0) = false := by rw [beq_eq_false_iff_ne]; omega
  have q1 : ¬ 2 * hf W = 0 := by omega
  have hq : (2 * hf W).tdiv 2 = hf W := Int.mul_tdiv_cancel_left _ (by decide)
  have wt := w64 (n := n.tmod (2 * hf W)) (by omega)
  have wg := w64 (n := hf W) (by omega)
  clear hc h
  generalize hf W = g at *
  go_enter Try.func65, Try.ntmps65
  go_wp2_with (fail)
  refine (HIW.out _).mono ?_
  rintro e wx ⟨rfl, hx⟩
  obtain rfl := hx.symm
  go_upto_region 4 with fail
  rw [hsh]
  clear hsh
  go_upto_region 5 with fail
  generalize n.tmod (2 * g) = t at *
  clear wt
  have w1 := w64 (n := t + 2 * g) (by omega)
  have w2 := w64 (n := t - 2 * g) (by omega)
  have w3 := w64 (n := t + 2 * g - 2 * g) (by omega)
  by_cases h0 : t < 0
  · have d0 : decide (t < 0) = true := by simpa using h0
    by_cases h1 : g ≤ t + 2 * g
    · have d1 : decide (g ≤ t + 2 * g) = true := by simpa using h1
      have HE := Lib.hid (show wrpP W n = t by rw [HR.out, if_neg (by omega), if_neg (by omega)])
      clear HR h0 h1
      go_wp2_with (fail)
      go_ret
      rw [HE.out]
      exact ⟨by first | rfl | exact ret_int (by omega) | (simp [go_sem]; done), rfl⟩
    · have d1 : decide (g ≤ t + 2 * g) = false := by simpa using h1
      have HE := Lib.hid (show wrpP W n = t + 2 * g by rw [HR.out, if_pos (by omega)])
      clear HR h0 h1
      go_wp2_with (fail)
      go_ret
      rw [HE.out]
      exact ⟨rfl, rfl⟩
  · have d0 : decide (t < 0) = false := by simpa using h0
    by_cases h1 : g ≤ t
    · have d1 : decide (g ≤ t) = true := by simpa using h1
      have HE := Lib.hid (show wrpP W n = t - 2 * g by rw [HR.out, if_neg (by omega), if_pos (by omega)])
      clear HR h0 h1
      go_wp2_with (fail)
      go_ret
      rw [HE.out]
      exact ⟨rfl, rfl⟩
    · have d1 : decide (g ≤ t) = false := by simpa using h1
      have HE := Lib.hid (show wrpP W n = t by rw [HR.out, if_neg (by omega), if_neg (by omega)])
      clear HR h0 h1
      go_wp2_with (fail)
      go_ret
      rw [HE.out]
      exact ⟨rfl, rfl⟩
end Go.Proofs.Ytbcabnbgkicfdaa
