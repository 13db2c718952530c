/- What is proved: Not, the numbers of nodes, whether numbers are literals (package gates and its reference). -/
import Derived.Test.YtbcabnbgkicfdaaGaMem
set_option linter.unusedVariables false
namespace Go.Proofs.Ytbcabnbgkicfdaa
open Go.RowKit Go.Maps

theorem bits_not (x : Int) (h : -9223372036854775808 ≤ x ∧ x ≤ 9223372036854775807) : bits .xor .i64 x 1 = notP x := by
  have e1 : (BitVec.ofInt 64 x).toNat = (x % 18446744073709551616).toNat := by rw [BitVec.toNat_ofInt]; rfl
  show IntKind.i64.wrap (((BitVec.ofInt 64 x ^^^ BitVec.ofInt 64 1).toNat : Nat) : Int) = _
  have e2 : (BitVec.ofInt 64 1).toNat = 1 := by decide
  rw [BitVec.toNat_xor, e1, e2, IntKind.wrap_i64]
  have d := Nat.xor_div_two_pow (a := (x % 18446744073709551616).toNat) (b := 1) (n := 1)
  have m := Nat.xor_mod_two_pow (a := (x % 18446744073709551616).toNat) (b := 1) (n := 1)
  have r : ((x % 18446744073709551616).toNat % 2 = 0 ∧ (x % 18446744073709551616).toNat % 2 ^ 1 ^^^ 1 % 2 ^ 1 = 1) ∨ ((x % 18446744073709551616).toNat % 2 = 1 ∧ (x % 18446744073709551616).toNat % 2 ^ 1 ^^^ 1 % 2 ^ 1 = 0) := by
    have : (x % 18446744073709551616).toNat % 2 = 0 ∨ (x % 18446744073709551616).toNat % 2 = 1 := by omega
    rcases this with e | e
    · left; exact ⟨e, by rw [Nat.pow_one, e]; rfl⟩
    · right; exact ⟨e, by rw [Nat.pow_one, e]; rfl⟩
  simp only [Nat.pow_one, Nat.reduceDiv, Nat.xor_zero] at d m r
  generalize (x % 18446744073709551616).toNat ^^^ 1 = q at *
  unfold notP
  split <;> omega
theorem not_any (x : Int) (h : -9223372036854775808 ≤ x ∧ x ≤ 9223372036854775807) (w : World) : Calls Try.prog 18 #[.int .i64 x] w fun e w' => e = .returned (.int .i64 (notP x)) ∧ w' = w := by
  have hb := bits_not x h
  go_enter Try.func18, Try.ntmps18
  go_wp2_with (fail)
  go_ret
  exact ⟨rfl, rfl⟩
theorem tmod2 (x : Int) : x.tmod 2 = 0 ↔ x % 2 = 0 := by rw [← Int.dvd_iff_tmod_eq_zero, ← Int.dvd_iff_emod_eq_zero]
theorem r_not_any (x : Int) (h : -9223372036854775807 ≤ x ∧ x ≤ 9223372036854775806) (w : World) : Calls Try.prog 19 #[.int .i64 x] w fun e w' => e = .returned (.int .i64 (notP x)) ∧ w' = w := by
  by_cases h0 : x.tmod 2 = 0
  · have HE := Lib.hid (show notP x = x + 1 by unfold notP; rw [if_pos ((tmod2 x).1 h0)])
    have d : (x.tmod 2 == 0) = true := by simpa using h0
    clear h0
    go_enter Try.func19, Try.ntmps19
    go_wp2_with (fail)
    go_ret
    rw [HE.out]
    exact ⟨by first | rfl | exact ret_int (by omega), rfl⟩
  · have HE := Lib.hid (show notP x = x - 1 by unfold notP; rw [if_neg (fun e => h0 ((tmod2 x).2 e))])
    have d : (x.tmod 2 == 0) = false := by simpa using h0
    clear h0
    go_enter Try.func19, Try.ntmps19
    go_wp2_with (fail)
    go_ret
    rw [HE.out]
    exact ⟨by first | rfl | exact ret_int (by omega), rfl⟩
def nds (I : Int) (n : Nat) : Int := 1 + I + (n : Int)
theorem areInputs_any (I : Int) (w : World) : Calls Try.prog 49 #[.int .i64 I] w fun e w' => e = .returned (.bool (decide (0 ≤ I ∧ I ≤ 1024))) ∧ w' = w := by
  by_cases h0 : 0 ≤ I
  · have d0 : decide (0 ≤ I) = true := by simpa using h0
    have HE := Lib.hid (show decide (0 ≤ I ∧ I ≤ 1024) = decide (I ≤ 1024) by simp [h0])
    rw [HE.out]
    clear h0 HE
    go_enter Try.func49, Try.ntmps49
    go_wp2_with (fail)
    go_ret
    exact ⟨rfl, rfl⟩
  · have d0 : decide (0 ≤ I) = false := by simpa using h0
    have HE := Lib.hid (show decide (0 ≤ I ∧ I ≤ 1024) = false by simp [h0])
    rw [HE.out]
    clear h0 HE
    go_enter Try.func49, Try.ntmps49
    go_wp2_with (fail)
    go_ret
    exact ⟨rfl, rfl⟩
theorem count_any (I : Int) (hI : -4611686018427387904 ≤ I ∧ I ≤ 4611686018427387904) (A : Option Addr) (n c : Nat) (hn : n ≤ 1000000) (w : World) : Calls Try.prog 57 #[.agg #[.int .i64 I, .slice A n c]] w fun e w' => e = .returned (.int .i64 (nds I n)) ∧ Below w.heap.size w w' := by
  have HC := Lib.hid (CBx.new w I A n c)
  have HB := Lib.hid ((Below.refl w.heap.size w).alloc (Nat.le_refl _) (.cells #[.int .i64 I, .slice A n c] 30))
  go_enter Try.func57, Try.ntmps57
  go_upto_region 1 with fail
  generalize w.alloc (.cells #[.int .i64 I, .slice A n c] 30) = w1 at *
  obtain ⟨c0, c1⟩ := HC.out.cells
  go_wp2_with (fail)
  go_ret
  exact ⟨by first | rfl | exact ret_int (by unfold nds; omega), HB.out⟩
theorem r_nodes_any (I : Int) (hI : -4611686018427387904 ≤ I ∧ I ≤ 4611686018427387904) (A : Option Addr) (n c : Nat) (hn : n ≤ 1000000) (w : World) : Calls Try.prog 15 #[.agg #[.int .i64 I, .slice A n c]] w fun e w' => e = .returned (.int .i64 (nds I n)) ∧ Below w.heap.size w w' := by
  have HC := Lib.hid (CBx.new w I A n c)
  have HB := Lib.hid ((Below.refl w.heap.size w).alloc (Nat.le_refl _) (.cells #[.int .i64 I, .slice A n c] 30))
  go_enter Try.func15, Try.ntmps15
  go_upto_region 1 with fail
  generalize w.alloc (.cells #[.int .i64 I, .slice A n c] 30) = w1 at *
  obtain ⟨c0, c1⟩ := HC.out.cells
  go_wp2_with (fail)
  go_ret
  exact ⟨by first | rfl | exact ret_int (by unfold nds; omega), HB.out⟩
end Go.Proofs.Ytbcabnbgkicfdaa
