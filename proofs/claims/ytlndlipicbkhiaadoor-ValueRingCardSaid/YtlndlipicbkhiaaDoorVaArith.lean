/- What is proved: sums, products and quotients modulo the width, as plain arithmetic. -/
import Derived.Test.YtlndlipicbkhiaaDoorVaBin
set_option linter.unusedVariables false
namespace Go.Proofs.YtlndlipicbkhiaaDoor
open Go.RowKit

theorem cut_add (h n : Int) (hh : h ≠ 0) : ∃ k, cut h n = n + 2 * h * k := by
  unfold cut
  rw [if_neg hh]
  refine ⟨-((n + h) / (2 * h)), ?_⟩
  have e := Int.emod_add_mul_ediv (n + h) (2 * h)
  rw [Int.mul_neg]
  omega
theorem cut_same (h n m k : Int) (hh : 0 < h) (h1 : -h ≤ m) (h2 : m < h) (h3 : m = n + 2 * h * k) : cut h n = m := by
  unfold cut
  rw [if_neg (by omega)]
  have e : n + h = (m + h) + (2 * h) * (-k) := by rw [h3, Int.mul_neg]; omega
  rw [e, Int.add_mul_emod_self_left, Int.emod_eq_of_lt (by omega) (by omega)]
  omega
theorem hf_pos {W : Int} (h : ¬ (W < 2 ∨ 8 < W)) : 0 < hf W := by
  rcases hf_cases W with ⟨h1, _⟩ | h1
  · exact absurd h1 h
  · omega
theorem wrp_wrp (W n : Int) (h : ¬ (W < 2 ∨ 8 < W)) : wrpP W (wrpP W n) = wrpP W n := (wrp_same W _ (hf_in h)).2 (wrp_in W n (hf_in h))
theorem wrp_cong (W m n k : Int) (h : ¬ (W < 2 ∨ 8 < W)) (e : m = n + 2 * hf W * k) : wrpP W m = wrpP W n := by
  obtain ⟨j, hj⟩ := cut_add (hf W) m (hf_in h)
  have hb := wrp_in W m (hf_in h)
  unfold hiP loP at hb
  rw [if_neg (hf_in h)] at hb
  refine (cut_same (hf W) n (cut (hf W) m) (k + j) (hf_pos h) hb.1 (by have := hb.2; unfold wrpP at this; omega) ?_).symm
  rw [hj, e, Int.mul_add]
  omega
theorem wrp_diff (W n : Int) (h : ¬ (W < 2 ∨ 8 < W)) : ∃ k, wrpP W n = n + 2 * hf W * k := cut_add (hf W) n (hf_in h)
theorem wrp_sum (W m n : Int) (h : ¬ (W < 2 ∨ 8 < W)) : wrpP W (wrpP W m + wrpP W n) = wrpP W (m + n) := by
  obtain ⟨j, hj⟩ := wrp_diff W m h
  obtain ⟨k, hk⟩ := wrp_diff W n h
  refine wrp_cong W _ _ (j + k) h ?_
  rw [hj, hk, Int.mul_add]
  omega
theorem wrp_prod (W m n : Int) (h : ¬ (W < 2 ∨ 8 < W)) : wrpP W (wrpP W m * wrpP W n) = wrpP W (m * n) := by
  obtain ⟨j, hj⟩ := wrp_diff W m h
  obtain ⟨k, hk⟩ := wrp_diff W n h
  refine wrp_cong W _ _ (m * k + j * n + 2 * hf W * j * k) h ?_
  rw [hj, hk]
  simp only [Int.mul_add, Int.add_mul]
  have e1 : m * (2 * hf W * k) = 2 * hf W * (m * k) := by rw [← Int.mul_assoc, Int.mul_comm m, Int.mul_assoc]
  have e2 : 2 * hf W * j * n = 2 * hf W * (j * n) := by rw [Int.mul_assoc]
  have e3 : 2 * hf W * j * (2 * hf W * k) = 2 * hf W * (2 * hf W * j * k) := by rw [Int.mul_assoc (2 * hf W) j, ← Int.mul_assoc j, Int.mul_comm j, Int.mul_assoc (2 * hf W) j k]
  rw [e1, e2, e3]
  omega
theorem sc_wrp (W n : Int) (h : ¬ (W < 2 ∨ 8 < W)) : scB W false (wrpP W n) = true := by
  simp [scB, wrp_wrp W n h]

/-- Binary on ints of the width -/
theorem bin_ok (W m n : Int) (s : ByteArray) (k : Nat) (h : ¬ (W < 2 ∨ 8 < W)) (hk : opN s.data.toList = k) (hk1 : k < 11) (hs : s.size ≤ maxLen) (w : World) :
    Calls Tryd.prog 8 #[.int .i64 W, .string s, .int .i64 (wrpP W m), .int .i64 (wrpP W n)] w fun e w' => e = .returned (.tuple #[.int .i64 (wrpP W (rawP k (wrpP W m) (wrpP W n)).1), .int .i64 (rawP k (wrpP W m) (wrpP W n)).2, .int .i64 0]) ∧ Below w.heap.size w w' := by
  have H := binary_any W (wrpP W m) (wrpP W n) s (by simp [IntKind.wrap, IntKind.bits, IntKind.signed]; omega) hs w
  rw [hk, binP_good h (by omega) (by rw [show decide (11 ≤ k) = false by rw [decide_eq_false_iff_not]; omega, sc_wrp W m h, sc_wrp W n h]; rfl)] at H
  exact H
theorem tdiv_tmod (x y : Int) : x.tdiv y * y + x.tmod y = x := by
  have := Int.tdiv_mul_add_tmod x y
  exact this
/-- the quotient, times the divisor, and the rest -/
theorem div_back (W x y : Int) (h : ¬ (W < 2 ∨ 8 < W)) (hx : wrpP W x = x) (hy : wrpP W y = y) : wrpP W (wrpP W (wrpP W (x.tdiv y) * y) + wrpP W (x.tmod y)) = x := by
  rw [wrp_sum W _ _ h]
  have e : wrpP W (wrpP W (x.tdiv y) * y + x.tmod y) = wrpP W (x.tdiv y * y + x.tmod y) := by
    obtain ⟨j, hj⟩ := wrp_diff W (x.tdiv y) h
    refine wrp_cong W _ _ (j * y) h ?_
    rw [hj, Int.add_mul, Int.mul_assoc (2 * hf W)]
    omega
  rw [e, tdiv_tmod, hx]
end Go.Proofs.YtlndlipicbkhiaaDoor
