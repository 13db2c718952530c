/- What is proved: the reference's truth, Divide and apply. -/
import Derived.Test.YtjgkcicgjnjepaaDoorBvRef
set_option linter.unusedVariables false
namespace Go.Proofs.YtjgkcicgjnjepaaDoor
open Go.RowKit Go.Maps

theorem r_truth_any (b : Bool) (w : World) : Calls Tryd.prog 44 #[.bool b] w fun e w' => e = .returned (.int .i64 (bt b)) ∧ w' = w := by
  cases b
  all_goals
    go_enter Tryd.func44, Tryd.ntmps44
    go_wp2_with (fail)
    go_ret
    exact ⟨rfl, rfl⟩
set_option maxRecDepth 100000 in
set_option maxHeartbeats 1000000 in
theorem r_divide_any (W a b : Int) (h : ¬ (W < 2 ∨ 8 < W)) (w : World) : Calls Tryd.prog 43 #[.int .i64 W, .int .i64 a, .int .i64 b] w fun e w' => e = .returned (.tuple #[.int .i64 (divQ W a b), .int .i64 (divR W a b)]) ∧ ∃ m, w' = w.drewN m := by
  have HA := Lib.hid (fun w => r_wrap_any W a h w)
  have HB := Lib.hid (fun w => r_wrap_any W b h w)
  have ba := wrp_bound W a
  have hq : -128 ≤ (wrpP W a).tdiv (wrpP W b) ∧ (wrpP W a).tdiv (wrpP W b) ≤ 128 := tdiv_small ba
  have hr : -128 ≤ (wrpP W a).tmod (wrpP W b) ∧ (wrpP W a).tmod (wrpP W b) ≤ 128 := tmod_small ba
  by_cases h0 : wrpP W b = 0
  · have HQ := Lib.hid (show divQ W a b = 0 from if_pos h0)
    have HR := Lib.hid (show divR W a b = wrpP W a from if_pos h0)
    rw [h0] at HB
    clear h h0 hq hr ba
    go_enter Tryd.func43, Tryd.ntmps43
    go_wp2_with (fail)
    refine (HA.out _).mono ?_
    rintro e w1 ⟨rfl, h1⟩
    obtain rfl := h1.symm
    go_wp2_with (fail)
    refine (HB.out _).mono ?_
    rintro e w2 ⟨rfl, h2⟩
    obtain rfl := h2.symm
    go_wp2_with (fail)
    go_ret2
    rw [HQ.out, HR.out]
    exact ⟨rfl, 0, rfl⟩
  · have HQ := Lib.hid (show divQ W a b = wrpP W ((wrpP W a).tdiv (wrpP W b)) from if_neg h0)
    have HR := Lib.hid (show divR W a b = (wrpP W a).tmod (wrpP W b) from if_neg h0)
    have HRR := Lib.hid (show wrpP W ((wrpP W a).tmod (wrpP W b)) = (wrpP W a).tmod (wrpP W b) from by have := rest_in W (wrpP W a) (wrpP W b) h (wrp_wrp W b h) h0; exact this)
    have e0 : (wrpP W b == 0) = false := by simpa using h0
    have wq := w64 (n := (wrpP W a).tdiv (wrpP W b)) (by omega)
    have wr := w64 (n := (wrpP W a).tmod (wrpP W b)) (by omega)
    have HC := Lib.hid (fun n w => r_wrap_any W n h w)
    generalize wrpP W a = x at *
    generalize wrpP W b = y at *
    clear hq hr ba h
    go_enter Tryd.func43, Tryd.ntmps43
    go_wp2_with (fail)
    refine (HA.out _).mono ?_
    rintro e w1 ⟨rfl, h1⟩
    obtain rfl := h1.symm
    go_wp2_with (fail)
    refine (HB.out _).mono ?_
    rintro e w2 ⟨rfl, h2⟩
    obtain rfl := h2.symm
    go_wp2_with (fail)
    go_quiet ((go_at_call 28; exact Calls.quiet_of_same (HC.out _ _)))
    go_wp2_with (fail)
    go_ret2
    rw [HQ.out, HR.out]
    exact ⟨by first | rfl | (rw [HRR.out]; rfl) | (simp only [HRR.out]; rfl), nq, rfl⟩
set_option maxRecDepth 100000 in
set_option maxHeartbeats 4000000 in
theorem r_apply_any (W : Int) (o : Nat) (a b c : Int) (h : ¬ (W < 2 ∨ 8 < W)) (h4 : 4 ≤ o) (h18 : o < 18) (ha : -128 ≤ a ∧ a ≤ 127) (hb : -128 ≤ b ∧ b ≤ 127) (h01 : o = 12 ∨ o = 13 → (a = 0 ∨ a = 1) ∧ (b = 0 ∨ b = 1)) (v d1 d2 d3 : Int) (inp : List Int) (w : World) : Calls Tryd.prog 29 #[.int .i64 W, .int .i64 (o : Int), .int .i64 a, .int .i64 b, .int .i64 c] w fun e w' => e = .returned (.int .i64 (valQ W ⟨(o : Int), v, d1, d2, d3⟩ a b c inp)) ∧ ∃ m, w' = w.drewN m := by
  have HD := Lib.hid (r_divide_any W a b h w)
  have HC := Lib.hid (fun n w => r_wrap_any W n h w)
  have HT := Lib.hid (fun b w => r_truth_any b w)
  have hm1 := mul_small ha hb
  have w1 := w64 (n := -a) (by omega)
  have w2 := w64 (n := a + b) (by omega)
  have w3 := w64 (n := a - b) (by omega)
  have w4 := w64 (n := a * b) (by omega)
  have w5 := w64 (n := 1 - a) (by omega)
  clear h hm1
  have ho : o = 4 ∨ o = 5 ∨ o = 6 ∨ o = 7 ∨ o = 8 ∨ o = 9 ∨ o = 10 ∨ o = 11 ∨ o = 12 ∨ o = 13 ∨ o = 14 ∨ o = 15 ∨ o = 16 ∨ o = 17 := by omega
  rcases ho with rfl | rfl | rfl | rfl | rfl | rfl | rfl | rfl | rfl | rfl | rfl | rfl | rfl | rfl
  · clear h4 h18 h01 ha hb
    go_enter Tryd.func29, Tryd.ntmps29
    go_wp2_with (fail)
    refine HD.out.mono ?_
    rintro e w1 ⟨rfl, m, rfl⟩
    go_wp2_with (fail)
    refine (HC.out _ _).mono ?_
    rintro e wx ⟨rfl, hx⟩
    obtain rfl := hx.symm
    go_wp2_with (fail)
    go_ret
    exact ⟨rfl, m, rfl⟩
  · clear h4 h18 h01 ha hb
    go_enter Tryd.func29, Tryd.ntmps29
    go_wp2_with (fail)
    refine HD.out.mono ?_
    rintro e w1 ⟨rfl, m, rfl⟩
    go_wp2_with (fail)
    refine (HC.out _ _).mono ?_
    rintro e wx ⟨rfl, hx⟩
    obtain rfl := hx.symm
    go_wp2_with (fail)
    go_ret
    exact ⟨rfl, m, rfl⟩
  · clear h4 h18 h01 ha hb
    go_enter Tryd.func29, Tryd.ntmps29
    go_wp2_with (fail)
    refine HD.out.mono ?_
    rintro e w1 ⟨rfl, m, rfl⟩
    go_wp2_with (fail)
    refine (HC.out _ _).mono ?_
    rintro e wx ⟨rfl, hx⟩
    obtain rfl := hx.symm
    go_wp2_with (fail)
    go_ret
    exact ⟨rfl, m, rfl⟩
  · clear h4 h18 h01 ha hb
    go_enter Tryd.func29, Tryd.ntmps29
    go_wp2_with (fail)
    refine HD.out.mono ?_
    rintro e w1 ⟨rfl, m, rfl⟩
    go_wp2_with (fail)
    refine (HC.out _ _).mono ?_
    rintro e wx ⟨rfl, hx⟩
    obtain rfl := hx.symm
    go_wp2_with (fail)
    go_ret
    exact ⟨rfl, m, rfl⟩
  · clear h4 h18 h01 ha hb
    go_enter Tryd.func29, Tryd.ntmps29
    go_wp2_with (fail)
    refine HD.out.mono ?_
    rintro e w1 ⟨rfl, m, rfl⟩
    go_wp2_with (fail)
    go_ret
    exact ⟨rfl, m, rfl⟩
  · clear h4 h18 h01 ha hb
    go_enter Tryd.func29, Tryd.ntmps29
    go_wp2_with (fail)
    refine HD.out.mono ?_
    rintro e w1 ⟨rfl, m, rfl⟩
    go_wp2_with (fail)
    go_ret
    exact ⟨rfl, m, rfl⟩
  · clear h4 h18 h01 ha hb
    clear w1 w2 w3 w4 w5
    by_cases h1 : a = 1
    · have e1 : (a == 1) = true := by simpa using h1
      have H1 := Lib.hid h1
      clear h1
      go_enter Tryd.func29, Tryd.ntmps29
      go_wp2_with (fail)
      refine HD.out.mono ?_
      rintro e w1 ⟨rfl, m, rfl⟩
      go_wp2_with (fail)
      go_ret
      exact ⟨by show _ = Ending.returned (.int .i64 (if a = 1 then b else c)); rw [if_pos H1.out]; rfl, m, rfl⟩
    · have e1 : (a == 1) = false := by simpa using h1
      have H1 := Lib.hid h1
      clear h1
      go_enter Tryd.func29, Tryd.ntmps29
      go_wp2_with (fail)
      refine HD.out.mono ?_
      rintro e w1 ⟨rfl, m, rfl⟩
      go_wp2_with (fail)
      go_ret
      exact ⟨by show _ = Ending.returned (.int .i64 (if a = 1 then b else c)); rw [if_neg H1.out]; rfl, m, rfl⟩
  · clear h4 h18 h01 ha hb
    go_enter Tryd.func29, Tryd.ntmps29
    go_wp2_with (fail)
    refine HD.out.mono ?_
    rintro e w1 ⟨rfl, m, rfl⟩
    go_wp2_with (fail)
    go_ret
    exact ⟨rfl, m, rfl⟩
  · have hv : a * b = min a b := by
      obtain ⟨h1, h2⟩ := h01 (.inl rfl)
      rcases h1 with rfl | rfl <;> rcases h2 with rfl | rfl <;> decide
    have HV := Lib.hid (show a * b = valQ W ⟨((12 : Nat) : Int), v, d1, d2, d3⟩ a b c inp from hv)
    clear h4 h18 h01 ha hb hv
    go_enter Tryd.func29, Tryd.ntmps29
    go_wp2_with (fail)
    refine HD.out.mono ?_
    rintro e w1 ⟨rfl, m, rfl⟩
    go_wp2_with (fail)
    go_ret
    exact ⟨by rw [← HV.out]; rfl, m, rfl⟩
  · have hv : bt (decide (0 < a + b)) = max a b := by
      obtain ⟨h1, h2⟩ := h01 (.inr rfl)
      rcases h1 with rfl | rfl <;> rcases h2 with rfl | rfl <;> decide
    have HV := Lib.hid (show bt (decide (0 < a + b)) = valQ W ⟨((13 : Nat) : Int), v, d1, d2, d3⟩ a b c inp from hv)
    clear h4 h18 h01 ha hb hv
    go_enter Tryd.func29, Tryd.ntmps29
    go_wp2_with (fail)
    refine HD.out.mono ?_
    rintro e w1 ⟨rfl, m, rfl⟩
    go_wp2_with (fail)
    refine (HT.out _ _).mono ?_
    rintro e wx ⟨rfl, hx⟩
    obtain rfl := hx.symm
    go_wp2_with (fail)
    go_ret
    exact ⟨by rw [← HV.out]; rfl, m, rfl⟩
  · clear h4 h18 h01 ha hb
    go_enter Tryd.func29, Tryd.ntmps29
    go_wp2_with (fail)
    refine HD.out.mono ?_
    rintro e w1 ⟨rfl, m, rfl⟩
    go_wp2_with (fail)
    refine (HT.out _ _).mono ?_
    rintro e wx ⟨rfl, hx⟩
    obtain rfl := hx.symm
    go_wp2_with (fail)
    go_ret
    exact ⟨rfl, m, rfl⟩
  · clear h4 h18 h01 ha hb
    clear w1 w2 w3 w4 w5
    by_cases h1 : a = 1
    · have e1 : (a == 1) = true := by simpa using h1
      have H1 := Lib.hid h1
      clear h1
      go_enter Tryd.func29, Tryd.ntmps29
      go_wp2_with (fail)
      refine HD.out.mono ?_
      rintro e w1 ⟨rfl, m, rfl⟩
      go_wp2_with (fail)
      go_ret
      exact ⟨by show _ = Ending.returned (.int .i64 (if a = 1 then b else c)); rw [if_pos H1.out]; rfl, m, rfl⟩
    · have e1 : (a == 1) = false := by simpa using h1
      have H1 := Lib.hid h1
      clear h1
      go_enter Tryd.func29, Tryd.ntmps29
      go_wp2_with (fail)
      refine HD.out.mono ?_
      rintro e w1 ⟨rfl, m, rfl⟩
      go_wp2_with (fail)
      go_ret
      exact ⟨by show _ = Ending.returned (.int .i64 (if a = 1 then b else c)); rw [if_neg H1.out]; rfl, m, rfl⟩
  · clear h4 h18 h01 ha hb
    go_enter Tryd.func29, Tryd.ntmps29
    go_wp2_with (fail)
    refine HD.out.mono ?_
    rintro e w1 ⟨rfl, m, rfl⟩
    go_wp2_with (fail)
    refine (HT.out _ _).mono ?_
    rintro e wx ⟨rfl, hx⟩
    obtain rfl := hx.symm
    go_wp2_with (fail)
    go_ret
    exact ⟨rfl, m, rfl⟩
  · clear h4 h18 h01 ha hb
    go_enter Tryd.func29, Tryd.ntmps29
    go_wp2_with (fail)
    refine HD.out.mono ?_
    rintro e w1 ⟨rfl, m, rfl⟩
    go_wp2_with (fail)
    refine (HT.out _ _).mono ?_
    rintro e wx ⟨rfl, hx⟩
    obtain rfl := hx.symm
    go_wp2_with (fail)
    go_ret
    exact ⟨rfl, m, rfl⟩
end Go.Proofs.YtjgkcicgjnjepaaDoor
