/- What is proved: the law ValueDivides, over the example's contract. -/
import Derived.Test.YtlndlipicbkhiaaDoorVaArith
import Derived.Test.YtlndlipicbkhiaaDoorVaAwake
set_option linter.unusedVariables false
namespace Go.Proofs.YtlndlipicbkhiaaDoor
open Go.RowKit

def VYes (w : World) (e : Ending) (w' : World) : Prop := e = .returned (.bool true) ∧ Below w.heap.size w w'
theorem rest_abs (x y : Int) (hy : y ≠ 0) : (x.tmod y).natAbs < y.natAbs := by
  rw [Int.natAbs_tmod]
  exact Nat.mod_lt _ (by omega)
theorem rest_sign (x y : Int) (h : x.tmod y ≠ 0) : (x.tmod y < 0) ↔ x < 0 := by
  constructor
  · intro h1
    rcases Int.lt_or_le x 0 with h2 | h2
    · exact h2
    · have := Int.tmod_nonneg y h2
      omega
  · intro h1
    have h2 := Int.tmod_nonneg y (show 0 ≤ -x by omega)
    rw [Int.neg_tmod] at h2
    omega
theorem rest_in (W x y : Int) (h : ¬ (W < 2 ∨ 8 < W)) (hy : wrpP W y = y) (h0 : y ≠ 0) : wrpP W (x.tmod y) = x.tmod y := by
  rw [wrp_same W _ (hf_in h)]
  have h1 := (wrp_same W y (hf_in h)).1 hy
  have h2 := rest_abs x y h0
  unfold loP hiP at *
  rw [if_neg (hf_in h)] at *
  omega

set_option maxRecDepth 100000 in
set_option maxHeartbeats 4000000 in
theorem divides_out (W a b : Int) (h : W < 2 ∨ 8 < W) (w : World) : Calls Tryd.prog 5 #[.int .i64 W, .int .i64 a, .int .i64 b] w (VYes w) := by
  have HA := Lib.hid (va_awake w)
  rcases h with h | h
  · have h1 : decide (W < 2) = true := by simpa using h
    go_enter Tryd.func5, Tryd.ntmps5
    go_wp2_with (fail)
    refine HA.out.mono ?_
    rintro e w1 ⟨rfl, hb⟩
    go_wp2_with (fail)
    go_ret
    exact ⟨rfl, hb⟩
  · have h1 : decide (W < 2) = false := by simp; omega
    have h2 : ¬ W < 2 := by omega
    have h3 : decide (8 < W) = true := by simpa using h
    go_enter Tryd.func5, Tryd.ntmps5
    go_wp2_with (fail)
    refine HA.out.mono ?_
    rintro e w1 ⟨rfl, hb⟩
    go_wp2_with (fail)
    go_ret
    exact ⟨rfl, hb⟩

set_option maxRecDepth 100000 in
set_option maxHeartbeats 4000000 in
theorem divides_zero (W a b : Int) (h : ¬ (W < 2 ∨ 8 < W)) (h0 : wrpP W b = 0) (w : World) : Calls Tryd.prog 5 #[.int .i64 W, .int .i64 a, .int .i64 b] w (VYes w) := by
  have HA := Lib.hid (fun W => va_awake W)
  have hWW : IntKind.i64.wrap W = W := by simp [IntKind.wrap, IntKind.bits, IntKind.signed]; omega
  have HW1 := Lib.hid (fun w => wrap_any W a hWW w)
  have HW2 := Lib.hid (fun w => wrap_any W b hWW w)
  have HD := Lib.hid (fun w => bin_ok W a b ⟨#[47]⟩ 3 h (by decide) (by decide) (by unfold maxLen; decide) w)
  have HM := Lib.hid (fun w => bin_ok W a b ⟨#[37]⟩ 4 h (by decide) (by decide) (by unfold maxLen; decide) w)
  rw [h0] at HW2 HD HM
  have hz : wrpP W 0 = 0 := (wrp_same W 0 (hf_in h)).2 (by have := hf_pos h; unfold loP hiP; rw [if_neg (hf_in h)]; omega)
  rw [show rawP 3 (wrpP W a) 0 = (0, 1) from rfl, hz] at HD
  rw [show rawP 4 (wrpP W a) 0 = (0, 1) from rfl, hz] at HM
  generalize wrpP W a = x at *
  have h1 : decide (W < 2) = false := by simp; omega
  have h2 : ¬ W < 2 := by omega
  have h3 : decide (8 < W) = false := by simp; omega
  have h4 : ¬ 8 < W := by omega
  clear h h0 hz hWW
  go_enter Tryd.func5, Tryd.ntmps5
  go_wp2_with (fail)
  refine (HW1.out _).mono ?_
  rintro e w1 ⟨rfl, rfl⟩
  go_wp2_with (fail)
  refine (HW2.out _).mono ?_
  rintro e w1 ⟨rfl, rfl⟩
  go_wp2_with (fail)
  refine (HD.out _).mono ?_
  rintro e w1 ⟨rfl, hb1⟩
  have HB1 := Lib.hid hb1
  clear hb1
  go_wp2_with (fail)
  refine (HM.out _).mono ?_
  rintro e w2 ⟨rfl, hb2⟩
  have HB2 := Lib.hid (HB1.out.trans (hb2.mono HB1.out.size))
  clear hb2
  go_wp2_with (fail)
  refine (HA.out _).mono ?_
  rintro e w3 ⟨rfl, hb3⟩
  have HB3 := Lib.hid (HB2.out.trans (hb3.mono HB2.out.size))
  clear hb3
  go_wp2_with (fail)
  go_ret
  exact ⟨rfl, HB3.out⟩

set_option maxRecDepth 100000 in
set_option maxHeartbeats 8000000 in
theorem divides_more (W a b : Int) (h : ¬ (W < 2 ∨ 8 < W)) (h0 : wrpP W b ≠ 0) (w : World) : Calls Tryd.prog 5 #[.int .i64 W, .int .i64 a, .int .i64 b] w (VYes w) := by
  have HA := Lib.hid (fun W => va_awake W)
  have hWW : IntKind.i64.wrap W = W := by simp [IntKind.wrap, IntKind.bits, IntKind.signed]; omega
  have HW1 := Lib.hid (fun w => wrap_any W a hWW w)
  have HW2 := Lib.hid (fun w => wrap_any W b hWW w)
  have HD := Lib.hid (fun w => bin_ok W a b ⟨#[47]⟩ 3 h (by decide) (by decide) (by unfold maxLen; decide) w)
  have HM := Lib.hid (fun w => bin_ok W a b ⟨#[37]⟩ 4 h (by decide) (by decide) (by unfold maxLen; decide) w)
  have hx := wrp_wrp W a h
  have hy := wrp_wrp W b h
  have bx := wrp_bound W a
  have by_ := wrp_bound W b
  have HB0 := Lib.hid (fun (s : ByteArray) (k : Nat) (m : Int) hk hk1 hs w => bin_ok W m b s k h hk hk1 hs w)
  have HB1 := Lib.hid (fun (s : ByteArray) (k : Nat) (m n : Int) hk hk1 hs w => bin_ok W m n s k h hk hk1 hs w)
  generalize wrpP W a = x at *
  generalize wrpP W b = y at *
  have hr := rest_in W x y h hy h0
  have hab := rest_abs x y h0
  have hsg := rest_sign x y
  have hdb := div_back W x y h hx hy
  rw [show rawP 3 x y = (x.tdiv y, 0) by unfold rawP; simp only []; rw [if_neg h0]] at HD
  rw [show rawP 4 x y = (x.tmod y, 0) by unfold rawP; simp only []; rw [if_neg h0]] at HM
  have HP := Lib.hid (fun w => HB0.out ⟨#[42]⟩ 2 (x.tdiv y) (by decide) (by decide) (by unfold maxLen; decide) w)
  have HS := Lib.hid (fun w => HB1.out ⟨#[43]⟩ 0 (wrpP W (x.tdiv y) * y) (x.tmod y) (by decide) (by decide) (by unfold maxLen; decide) w)
  rw [show rawP 2 (wrpP W (x.tdiv y)) y = (wrpP W (x.tdiv y) * y, 0) from rfl] at HP
  rw [show rawP 0 (wrpP W (wrpP W (x.tdiv y) * y)) (wrpP W (x.tmod y)) = (wrpP W (wrpP W (x.tdiv y) * y) + wrpP W (x.tmod y), 0) from rfl, hdb] at HS
  rw [hr] at HM HS
  simp only [] at HD HM HP HS
  clear HB0 HB1 hdb hx hy
  generalize wrpP W (wrpP W (x.tdiv y) * y) = p at *
  generalize wrpP W (x.tdiv y) = q at *
  generalize x.tmod y = r at *
  have br : -128 ≤ r ∧ r ≤ 127 := by omega
  have n1 : IntKind.i64.wrap (-r) = -r := by simp [IntKind.wrap, IntKind.bits, IntKind.signed]; omega
  have n2 : IntKind.i64.wrap (-y) = -y := by simp [IntKind.wrap, IntKind.bits, IntKind.signed]; omega
  have h1 : decide (W < 2) = false := by simp; omega
  have h2 : ¬ W < 2 := by omega
  have h3 : decide (8 < W) = false := by simp; omega
  have h4 : ¬ 8 < W := by omega
  have h5 : (y == 0) = false := by simpa using h0
  have HSG := Lib.hid hsg
  have hmx : max r (-r) < max y (-y) := by omega
  clear h h0 hr hWW hsg hab bx by_ br
  go_enter Tryd.func5, Tryd.ntmps5
  go_wp2_with (fail)
  refine (HW1.out _).mono ?_
  rintro e w1 ⟨rfl, rfl⟩
  go_wp2_with (fail)
  refine (HW2.out _).mono ?_
  rintro e w1 ⟨rfl, rfl⟩
  go_wp2_with (fail)
  refine (HD.out _).mono ?_
  rintro e w1 ⟨rfl, hb1⟩
  have HB1 := Lib.hid hb1
  clear hb1
  go_wp2_with (fail)
  refine (HM.out _).mono ?_
  rintro e w2 ⟨rfl, hb2⟩
  have HB2 := Lib.hid (HB1.out.trans (hb2.mono HB1.out.size))
  clear hb2
  go_wp2_with (fail)
  refine (HP.out _).mono ?_
  rintro e w3 ⟨rfl, hb3⟩
  have HB3 := Lib.hid (HB2.out.trans (hb3.mono HB2.out.size))
  clear hb3
  go_wp2_with (fail)
  refine (HS.out _).mono ?_
  rintro e w4 ⟨rfl, hb4⟩
  have HB4 := Lib.hid (HB3.out.trans (hb4.mono HB3.out.size))
  clear hb4
  go_wp2_with (fail)
  all_goals first
    | (exfalso; have h9 := HSG.out; omega)
    | (refine (HA.out _).mono ?_
       rintro e w5 ⟨rfl, hb5⟩
       have HB5 := Lib.hid (HB4.out.trans (hb5.mono HB4.out.size))
       clear hb5
       go_wp2_with (fail)
       go_ret
       exact ⟨rfl, HB5.out⟩)

theorem law_divides (W a b : Int) (w : World) : Calls Tryd.prog 5 #[.int .i64 W, .int .i64 a, .int .i64 b] w fun e w' => e = .returned (.bool true) ∧ Below w.heap.size w w' := by
  by_cases h : W < 2 ∨ 8 < W
  · exact divides_out W a b h w
  · by_cases h0 : wrpP W b = 0
    · exact divides_zero W a b h h0 w
    · exact divides_more W a b h h0 w
end Go.Proofs.YtlndlipicbkhiaaDoor
