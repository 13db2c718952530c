/- What is proved: the reference's Wrap, its checks of scalars, Has. -/
import Derived.Test.YtlndlipicbkhiaaDoorVaRef
import Derived.Test.YtlndlipicbkhiaaDoorVaUn
set_option linter.unusedVariables false
namespace Go.Proofs.YtlndlipicbkhiaaDoor
open Go.RowKit

theorem r_wrap_any (W n : Int) (hn : -9223372036854775808 ≤ n ∧ n ≤ 9223372036854775807) (w : World) : Calls Tryd.prog 13 #[.int .i64 W, .int .i64 n] w fun e w' => e = .returned (.int .i64 (wrpP W n)) ∧ w' = w := by
  have HP := Lib.hid (r_width_any W w)
  by_cases h : W < 2 ∨ 8 < W
  · rw [wok_no h] at HP
    have H := Lib.hid h
    clear h
    go_enter Tryd.func13, Tryd.ntmps13
    go_wp2_with (fail)
    refine HP.out.mono ?_
    rintro e w1 ⟨rfl, rfl⟩
    go_wp2_with (fail)
    go_ret
    refine ⟨?_, rfl⟩
    unfold wrpP cut
    rw [hf_out H.out, if_pos rfl]
    rfl
  · rw [wok_yes h] at HP
    have HF := Lib.hid (fun w => r_full_any W h w)
    have HL := Lib.hid (fun w => r_least_any W w)
    have HG := Lib.hid (fun w => r_greatest_any W w)
    obtain ⟨hc, hm1, hm2⟩ := ref_cut W n h
    have hlo : loP W = -hf W := rfl
    have hhi : hiP W = hf W - 1 := if_neg (hf_in h)
    have hb := hf_bound h
    rw [hlo] at HL
    rw [hhi] at HG
    obtain ⟨m, hm⟩ : ∃ m, n.tmod (2 * hf W) = m := ⟨_, rfl⟩
    rw [hm] at hc hm1 hm2
    obtain ⟨q, hq⟩ : ∃ q, 2 * hf W = q := ⟨_, rfl⟩
    rw [hq] at hc hm HF
    have hqb : 4 ≤ q ∧ q ≤ 256 := by omega
    generalize hf W = f at *
    have hq0 : (q == 0) = false := by simp; omega
    have hq1 : ¬ q = 0 := by omega
    have hw0 : IntKind.i64.wrap m = m := by simp [IntKind.wrap, IntKind.bits, IntKind.signed]; omega
    have hw1 : IntKind.i64.wrap (m + q) = m + q := by simp [IntKind.wrap, IntKind.bits, IntKind.signed]; omega
    have hw2 : IntKind.i64.wrap (m - q) = m - q := by simp [IntKind.wrap, IntKind.bits, IntKind.signed]; omega
    have HQ := Lib.hid hq
    clear h hq hlo hhi hb hn
    by_cases t1 : m < -f
    · have HC := Lib.hid (hc.trans (if_pos t1))
      clear hc
      have d1 : decide (m < -f) = true := by simpa using t1
      go_enter Tryd.func13, Tryd.ntmps13
      go_wp2_with (fail)
      refine HP.out.mono ?_
      rintro e w1 ⟨rfl, rfl⟩
      go_wp2_with (fail)
      refine (HF.out _).mono ?_
      rintro e w1 ⟨rfl, rfl⟩
      go_wp2_with (fail)
      refine (HL.out _).mono ?_
      rintro e w1 ⟨rfl, rfl⟩
      go_wp2_with (fail)
      refine (HF.out _).mono ?_
      rintro e w1 ⟨rfl, rfl⟩
      go_wp2_with (fail)
      go_ret
      exact ⟨by rw [HC.out]; rfl, rfl⟩
    · have d1 : decide (m < -f) = false := by simpa using t1
      rw [if_neg t1] at hc
      by_cases t2 : f - 1 < m
      · have HC := Lib.hid (hc.trans (if_pos t2))
        clear hc
        have d2 : decide (f - 1 < m) = true := by simpa using t2
        go_enter Tryd.func13, Tryd.ntmps13
        go_wp2_with (fail)
        refine HP.out.mono ?_
        rintro e w1 ⟨rfl, rfl⟩
        go_wp2_with (fail)
        refine (HF.out _).mono ?_
        rintro e w1 ⟨rfl, rfl⟩
        go_wp2_with (fail)
        refine (HL.out _).mono ?_
        rintro e w1 ⟨rfl, rfl⟩
        go_wp2_with (fail)
        refine (HG.out _).mono ?_
        rintro e w1 ⟨rfl, rfl⟩
        go_wp2_with (fail)
        refine (HF.out _).mono ?_
        rintro e w1 ⟨rfl, rfl⟩
        go_wp2_with (fail)
        go_ret
        exact ⟨by rw [HC.out]; rfl, rfl⟩
      · have HC := Lib.hid (hc.trans (if_neg t2))
        clear hc
        have d2 : decide (f - 1 < m) = false := by simpa using t2
        go_enter Tryd.func13, Tryd.ntmps13
        go_wp2_with (fail)
        refine HP.out.mono ?_
        rintro e w1 ⟨rfl, rfl⟩
        go_wp2_with (fail)
        refine (HF.out _).mono ?_
        rintro e w1 ⟨rfl, rfl⟩
        go_wp2_with (fail)
        refine (HL.out _).mono ?_
        rintro e w1 ⟨rfl, rfl⟩
        go_wp2_with (fail)
        refine (HG.out _).mono ?_
        rintro e w1 ⟨rfl, rfl⟩
        go_wp2_with (fail)
        go_ret
        exact ⟨by rw [HC.out]; rfl, rfl⟩
theorem r_bit_any (b : Bool) (w : World) : Calls Tryd.prog 32 #[.bool b] w fun e w' => e = .returned (.int .i64 (bt b)) ∧ w' = w := by
  cases b with
  | true =>
    go_enter Tryd.func32, Tryd.ntmps32
    go_wp2_with (fail)
    go_ret
    exact ⟨rfl, rfl⟩
  | false =>
    go_enter Tryd.func32, Tryd.ntmps32
    go_wp2_with (fail)
    go_ret
    exact ⟨rfl, rfl⟩
theorem r_isBit_any (n : Int) (w : World) : Calls Tryd.prog 30 #[.int .i64 n] w fun e w' => e = .returned (.bool (n == 0 || n == 1)) ∧ w' = w := by
  by_cases h : n = 0
  · subst h
    go_enter Tryd.func30, Tryd.ntmps30
    go_wp2_with (fail)
    go_ret
    exact ⟨rfl, rfl⟩
  · have h1 : (n == 0) = false := by simpa using h
    go_enter Tryd.func30, Tryd.ntmps30
    go_wp2_with (fail)
    go_ret
    exact ⟨by simp [h], rfl⟩
theorem r_isInt_any (W n : Int) (w : World) : Calls Tryd.prog 31 #[.int .i64 W, .int .i64 n] w fun e w' => e = .returned (.bool (decide (loP W ≤ n) && decide (n ≤ hiP W))) ∧ w' = w := by
  have HL := Lib.hid (fun w => r_least_any W w)
  have HG := Lib.hid (fun w => r_greatest_any W w)
  generalize loP W = lo at *
  generalize hiP W = hi at *
  obtain ⟨t, ht⟩ : ∃ t, decide (lo ≤ n) = t := ⟨_, rfl⟩
  rw [ht]
  cases t with
  | true =>
    have q := of_decide_eq_true ht
    go_enter Tryd.func31, Tryd.ntmps31
    go_wp2_with (fail)
    refine (HL.out _).mono ?_
    rintro e w1 ⟨rfl, rfl⟩
    go_wp2_with (fail)
    refine (HG.out _).mono ?_
    rintro e w1 ⟨rfl, rfl⟩
    go_wp2_with (fail)
    go_ret
    exact ⟨by simp, rfl⟩
  | false =>
    have q := of_decide_eq_false ht
    go_enter Tryd.func31, Tryd.ntmps31
    go_wp2_with (fail)
    refine (HL.out _).mono ?_
    rintro e w1 ⟨rfl, rfl⟩
    go_wp2_with (fail)
    go_ret
    exact ⟨rfl, rfl⟩
end Go.Proofs.YtlndlipicbkhiaaDoor
