/- What is proved: the law ValueRing, over the example's contract. -/
import Derived.Test.YtlndlipicbkhiaaDoorVaDiv
import Derived.Test.YtlndlipicbkhiaaDoorVaUn
set_option linter.unusedVariables false
namespace Go.Proofs.YtlndlipicbkhiaaDoor
open Go.RowKit

/-- the machine's negative number -/
theorem neg_ways (a : Int) (h : -9223372036854775808 ≤ a ∧ a ≤ 9223372036854775807) : IntKind.i64.wrap (-a) = if a = -9223372036854775808 then a else -a := by
  simp [IntKind.wrap, IntKind.bits, IntKind.signed]
  split <;> omega
/-- the guard: which numbers are too great -/
def ringOut (a b na nb : Int) : Prop := 1048576 < max a na ∨ ¬ 1048576 < max a na ∧ 1048576 < max b nb ∨ ¬ 1048576 < max a na ∧ ¬ 1048576 < max b nb ∧ a = -9223372036854775808 ∨ ¬ 1048576 < max a na ∧ ¬ 1048576 < max b nb ∧ a ≠ -9223372036854775808 ∧ b = -9223372036854775808
theorem hf_bound2 {W : Int} (h : ¬ (W < 2 ∨ 8 < W)) : 2 ≤ hf W ∧ hf W ≤ 128 := by
  rcases hf_cases W with ⟨h1, _⟩ | h1
  · exact absurd h1 h
  · omega
theorem un_ok (W n : Int) (h : ¬ (W < 2 ∨ 8 < W)) (w : World) : Calls Tryd.prog 10 #[.int .i64 W, .string ⟨#[45]⟩, .int .i64 (wrpP W n)] w fun e w' => e = .returned (.tuple #[.int .i64 (wrpP W (-wrpP W n)), .int .i64 0]) ∧ Below w.heap.size w w' := by
  have H := unary_any W (wrpP W n) ⟨#[45]⟩ (by simp [IntKind.wrap, IntKind.bits, IntKind.signed]; omega) (by unfold maxLen; decide) w
  rw [show unN (⟨#[45]⟩ : ByteArray).data.toList = 0 by decide, unP_good (k := 0) h (by decide) (sc_wrp W n h)] at H
  exact H
theorem shift_full (W : Int) (h : ¬ (W < 2 ∨ 8 < W)) : wrap64 (2 ^ W.toNat) = 2 * hf W := by
  have : W = 2 ∨ W = 3 ∨ W = 4 ∨ W = 5 ∨ W = 6 ∨ W = 7 ∨ W = 8 := by omega
  rcases this with rfl | rfl | rfl | rfl | rfl | rfl | rfl <;> decide +kernel

set_option maxRecDepth 100000 in
set_option maxHeartbeats 4000000 in
theorem ring_out (W a b na nb : Int) (hna : IntKind.i64.wrap (-a) = na) (hnb : IntKind.i64.wrap (-b) = nb) (h : W < 2 ∨ 8 < W ∨ ringOut a b na nb) (w : World) : Calls Tryd.prog 6 #[.int .i64 W, .int .i64 a, .int .i64 b] w (VYes w) := by
  have HA := Lib.hid (va_awake w)
  by_cases g1 : W < 2
  · clear h
    have d1 : decide (W < 2) = true := by simpa using g1
    go_enter Tryd.func6, Tryd.ntmps6
    go_wp2_with (fail)
    refine HA.out.mono ?_
    rintro e w1 ⟨rfl, hb⟩
    go_wp2_with (fail)
    go_ret
    exact ⟨rfl, hb⟩
  have d1 : decide (W < 2) = false := by simpa using g1
  by_cases g2 : 8 < W
  · clear h
    have d2 : decide (8 < W) = true := by simpa using g2
    go_enter Tryd.func6, Tryd.ntmps6
    go_wp2_with (fail)
    refine HA.out.mono ?_
    rintro e w1 ⟨rfl, hb⟩
    go_wp2_with (fail)
    go_ret
    exact ⟨rfl, hb⟩
  have d2 : decide (8 < W) = false := by simpa using g2
  have h := (h.resolve_left g1).resolve_left g2
  unfold ringOut at h
  rcases h with h | ⟨h1, h⟩ | ⟨h1, h2, h⟩ | ⟨h1, h2, h3, h⟩
  · have d3 : decide (1048576 < max a na) = true := by simpa using h
    go_enter Tryd.func6, Tryd.ntmps6
    go_wp2_with (fail)
    refine HA.out.mono ?_
    rintro e w1 ⟨rfl, hb⟩
    go_wp2_with (fail)
    go_ret
    exact ⟨rfl, hb⟩
  · have d3 : decide (1048576 < max a na) = false := by simpa using h1
    have d4 : decide (1048576 < max b nb) = true := by simpa using h
    go_enter Tryd.func6, Tryd.ntmps6
    go_wp2_with (fail)
    refine HA.out.mono ?_
    rintro e w1 ⟨rfl, hb⟩
    go_wp2_with (fail)
    go_ret
    exact ⟨rfl, hb⟩
  · have d3 : decide (1048576 < max a na) = false := by simpa using h1
    have d4 : decide (1048576 < max b nb) = false := by simpa using h2
    have d5 : (a == -9223372036854775808) = true := by simpa using h
    have H := Lib.hid h
    clear h
    go_enter Tryd.func6, Tryd.ntmps6
    go_wp2_with (fail)
    refine HA.out.mono ?_
    rintro e w1 ⟨rfl, hb⟩
    go_wp2_with (fail)
    go_ret
    exact ⟨rfl, hb⟩
  · have d3 : decide (1048576 < max a na) = false := by simpa using h1
    have d4 : decide (1048576 < max b nb) = false := by simpa using h2
    have d5 : (a == -9223372036854775808) = false := by simpa using h3
    have d6 : (b == -9223372036854775808) = true := by simpa using h
    have H := Lib.hid h
    clear h h3
    go_enter Tryd.func6, Tryd.ntmps6
    go_wp2_with (fail)
    refine HA.out.mono ?_
    rintro e w1 ⟨rfl, hb⟩
    go_wp2_with (fail)
    go_ret
    exact ⟨rfl, hb⟩

set_option maxRecDepth 100000 in
set_option maxHeartbeats 8000000 in
theorem ring_in (W a b na nb : Int) (hna : IntKind.i64.wrap (-a) = na) (hnb : IntKind.i64.wrap (-b) = nb) (ha : -1048576 ≤ a ∧ a ≤ 1048576) (hb : -1048576 ≤ b ∧ b ≤ 1048576) (h : ¬ (W < 2 ∨ 8 < W)) (w : World) : Calls Tryd.prog 6 #[.int .i64 W, .int .i64 a, .int .i64 b] w (VYes w) := by
  have HA := Lib.hid (fun W => va_awake W)
  have hWW : IntKind.i64.wrap W = W := by simp [IntKind.wrap, IntKind.bits, IntKind.signed]; omega
  have HW := Lib.hid (fun n w => wrap_any W n hWW w)
  have HLO := Lib.hid (fun w => least_any W hWW w)
  have HHI := Lib.hid (fun w => greatest_any W hWW w)
  have HBI := Lib.hid (fun (s : ByteArray) (k : Nat) (m n : Int) hk hk1 hs w => bin_ok W m n s k h hk hk1 hs w)
  have HUN := Lib.hid (fun (n : Int) w => un_ok W n h w)
  have hx := wrp_wrp W a h
  have hy := wrp_wrp W b h
  have hin := wrp_in W a (hf_in h)
  have hsum := wrp_sum W a b h
  have hpro := wrp_prod W a b h
  obtain ⟨k, hk⟩ := wrp_diff W a h
  have hmb := wrp_bound W (-wrpP W b)
  have hdif : wrpP W (wrpP W a - wrpP W b) = wrpP W (wrpP W a + wrpP W (-wrpP W b)) := by
    have := wrp_sum W (wrpP W a) (-wrpP W b) h
    rw [hx] at this
    rw [this]
    rfl
  have hS := Lib.hid (fun w => HBI.out ⟨#[43]⟩ 0 a b (by decide) (by decide) (by unfold maxLen; decide) w)
  have hP := Lib.hid (fun w => HBI.out ⟨#[42]⟩ 2 a b (by decide) (by decide) (by unfold maxLen; decide) w)
  have hM := Lib.hid (fun w => HUN.out b w)
  have hD := Lib.hid (fun w => HBI.out ⟨#[45]⟩ 1 a b (by decide) (by decide) (by unfold maxLen; decide) w)
  have hO := Lib.hid (fun w => HBI.out ⟨#[43]⟩ 0 a (-wrpP W b) (by decide) (by decide) (by unfold maxLen; decide) w)
  have hL := Lib.hid (fun w => HBI.out ⟨#[60]⟩ 7 a b (by decide) (by decide) (by unfold maxLen; decide) w)
  have hbt : wrpP W (bt (decide (wrpP W a < wrpP W b))) = bt (decide (wrpP W a < wrpP W b)) := (wrp_same W _ (hf_in h)).2 (by
    have hp := hf_bound2 h
    unfold loP hiP
    rw [if_neg (hf_in h)]
    cases decide (wrpP W a < wrpP W b) <;> simp [bt] <;> omega)
  have hWA := Lib.hid (fun w => HW.out a w)
  have hWB := Lib.hid (fun w => HW.out b w)
  have hWS := Lib.hid (fun w => HW.out (a + b) w)
  have hWP := Lib.hid (fun w => HW.out (a * b) w)
  simp only [rawP, hbt, hsum, hpro] at hS hP hD hO hL
  rw [← hdif] at hO
  clear HBI HUN HW hbt hsum hpro hdif hx hy
  have hsh := shift_full W h
  have hhf := hf_bound2 h
  have hq : (a - wrpP W a).tmod (2 * hf W) = 0 := by
    rw [show a - wrpP W a = 2 * hf W * (-k) by rw [hk, Int.mul_neg]; omega]
    exact Int.mul_tmod_right _ _
  have bx := wrp_bound W a
  have hax : IntKind.i64.wrap (a - wrpP W a) = a - wrpP W a := by simp [IntKind.wrap, IntKind.bits, IntKind.signed]; omega
  have hab : IntKind.i64.wrap (a + b) = a + b := by simp [IntKind.wrap, IntKind.bits, IntKind.signed]; omega
  have hpp : IntKind.i64.wrap (a * b) = a * b := by
    have hn : (a * b).natAbs ≤ 1048576 * 1048576 := by
      rw [Int.natAbs_mul]
      exact Nat.mul_le_mul (by omega) (by omega)
    simp [IntKind.wrap, IntKind.bits, IntKind.signed]; omega
  clear hk k bx hmb
  generalize wrpP W (-wrpP W b) = m at *
  generalize wrpP W (wrpP W a - wrpP W b) = d at *
  generalize wrpP W (a + b) = su at *
  generalize wrpP W (a * b) = pr at *
  generalize wrpP W a = x at *
  generalize wrpP W b = y at *
  obtain ⟨q2, HQ2⟩ : ∃ q, Hid (2 * hf W = q) := ⟨_, Lib.hid rfl⟩
  rw [HQ2.out] at hsh hq
  have hq0 : (q2 == 0) = false := by rw [← HQ2.out]; simp; omega
  have hq0' : ¬ q2 = 0 := by simpa using hq0
  have hi1 : loP W ≤ x := hin.1
  have hi2 : x ≤ hiP W := hin.2
  have e1 : decide (loP W ≤ x) = true := by simpa using hi1
  have e2 : decide (x ≤ hiP W) = true := by simpa using hi2
  generalize loP W = lo at *
  generalize hiP W = hi at *
  have d1 : decide (W < 2) = false := by simp; omega
  have d1' : ¬ W < 2 := by omega
  have d2 : decide (8 < W) = false := by simp; omega
  have d2' : ¬ 8 < W := by omega
  have na1 : na = -a := by rw [← hna]; simp [IntKind.wrap, IntKind.bits, IntKind.signed]; omega
  have nb1 : nb = -b := by rw [← hnb]; simp [IntKind.wrap, IntKind.bits, IntKind.signed]; omega
  have d3' : ¬ 1048576 < max a na := by omega
  have d4' : ¬ 1048576 < max b nb := by omega
  have d3 : decide (1048576 < max a na) = false := by simpa using d3'
  have d4 : decide (1048576 < max b nb) = false := by simpa using d4'
  have d5 : (a == -9223372036854775808) = false := by simp; omega
  have d6 : (b == -9223372036854775808) = false := by simp; omega
  have HNA := Lib.hid na1
  have HNB := Lib.hid nb1
  clear na1 nb1 ha hb hin hhf h hWW
  obtain ⟨t, c1⟩ : ∃ t, decide (x < y) = t := ⟨_, rfl⟩
  rw [c1] at hL
  cases t
  all_goals
    first | (have hxy := of_decide_eq_true c1) | (have hxy := of_decide_eq_false c1)
    simp only [bt, if_true, if_false, Bool.false_eq_true] at hL
    go_enter Tryd.func6, Tryd.ntmps6
    go_wp2_with (fail)
    refine (hWA.out _).mono ?_
    rintro e w1 ⟨rfl, rfl⟩
    go_wp2_with (fail)
    refine (hWB.out _).mono ?_
    rintro e w1 ⟨rfl, rfl⟩
    go_wp2_with (fail)
    refine (hS.out _).mono ?_
    rintro e w1 ⟨rfl, hb1⟩
    have HB1 := Lib.hid hb1
    clear hb1
    go_wp2_with (fail)
    refine (hP.out _).mono ?_
    rintro e w2 ⟨rfl, hb1⟩
    have HB2 := Lib.hid (HB1.out.trans (hb1.mono HB1.out.size))
    clear hb1
    go_wp2_with (fail)
    refine (hM.out _).mono ?_
    rintro e w3 ⟨rfl, hb1⟩
    have HB3 := Lib.hid (HB2.out.trans (hb1.mono HB2.out.size))
    clear hb1
    go_wp2_with (fail)
    refine (hD.out _).mono ?_
    rintro e w4 ⟨rfl, hb1⟩
    have HB4 := Lib.hid (HB3.out.trans (hb1.mono HB3.out.size))
    clear hb1
    go_wp2_with (fail)
    refine (hO.out _).mono ?_
    rintro e w5 ⟨rfl, hb1⟩
    have HB5 := Lib.hid (HB4.out.trans (hb1.mono HB4.out.size))
    clear hb1
    go_wp2_with (fail)
    refine (hL.out _).mono ?_
    rintro e w6 ⟨rfl, hb1⟩
    have HB6 := Lib.hid (HB5.out.trans (hb1.mono HB5.out.size))
    clear hb1
    go_wp2_with (fail)
    refine (HLO.out _).mono ?_
    rintro e w9 ⟨rfl, rfl⟩
    go_wp2_with (fail)
    refine (HHI.out _).mono ?_
    rintro e w9 ⟨rfl, rfl⟩
    go_wp2_with (fail)
    refine (hWS.out _).mono ?_
    rintro e w9 ⟨rfl, rfl⟩
    go_wp2_with (fail)
    refine (hWP.out _).mono ?_
    rintro e w9 ⟨rfl, rfl⟩
    go_wp2_with (fail)
    refine (HA.out _).mono ?_
    rintro e w10 ⟨rfl, hb1⟩
    have HB9 := Lib.hid (HB6.out.trans (hb1.mono HB6.out.size))
    clear hb1
    go_wp2_with (fail)
    go_ret
    exact ⟨rfl, HB9.out⟩

theorem law_ring (W a b : Int) (w : World) (ha : -9223372036854775808 ≤ a ∧ a ≤ 9223372036854775807) (hb : -9223372036854775808 ≤ b ∧ b ≤ 9223372036854775807) : Calls Tryd.prog 6 #[.int .i64 W, .int .i64 a, .int .i64 b] w fun e w' => e = .returned (.bool true) ∧ Below w.heap.size w w' := by
  have h1 := neg_ways a ha
  have h2 := neg_ways b hb
  obtain ⟨na, hna⟩ : ∃ n, IntKind.i64.wrap (-a) = n := ⟨_, rfl⟩
  obtain ⟨nb, hnb⟩ : ∃ n, IntKind.i64.wrap (-b) = n := ⟨_, rfl⟩
  rw [hna] at h1
  rw [hnb] at h2
  by_cases h : W < 2 ∨ 8 < W ∨ ringOut a b na nb
  · exact ring_out W a b na nb hna hnb h w
  · unfold ringOut at h
    exact ring_in W a b na nb hna hnb (by split at h1 <;> split at h2 <;> omega) (by split at h1 <;> split at h2 <;> omega) (by omega) w
theorem wf_int {a : Int} (h : (Lit.int .i64 a).wf = true) : -9223372036854775808 ≤ a ∧ a ≤ 9223372036854775807 := by
  simp [Lit.wf, IntKind.min, IntKind.max, IntKind.bits, IntKind.signed] at h
  omega
theorem law_ring_wf (W a b : Int) (w : World) (ha : (Lit.int .i64 a).wf = true) (hb : (Lit.int .i64 b).wf = true) : Calls Tryd.prog 6 #[.int .i64 W, .int .i64 a, .int .i64 b] w fun e w' => e = .returned (.bool true) ∧ Below w.heap.size w w' := law_ring W a b w (wf_int ha) (wf_int hb)
end Go.Proofs.YtlndlipicbkhiaaDoor
