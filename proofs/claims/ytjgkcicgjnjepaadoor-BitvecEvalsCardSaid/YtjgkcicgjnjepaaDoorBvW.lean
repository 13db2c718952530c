/- What is proved: plain arithmetic of the integers of a width; it speaks of no program. -/
import Derived.Test.YtjgkcicgjnjepaaDoorProg
import Derived.WalkKit
import Derived.Lib.Hide
set_option linter.unusedVariables false
namespace Go.Proofs.YtjgkcicgjnjepaaDoor
open Go.RowKit

def hf (W : Int) : Int := if W = 2 then 2 else if W = 3 then 4 else if W = 4 then 8 else if W = 5 then 16 else if W = 6 then 32 else if W = 7 then 64 else if W = 8 then 128 else 0
theorem hf_cases (W : Int) : ((W < 2 ∨ 8 < W) ∧ hf W = 0) ∨ (W = 2 ∧ hf W = 2) ∨ (W = 3 ∧ hf W = 4) ∨ (W = 4 ∧ hf W = 8) ∨ (W = 5 ∧ hf W = 16) ∨ (W = 6 ∧ hf W = 32) ∨ (W = 7 ∧ hf W = 64) ∨ (W = 8 ∧ hf W = 128) := by
  by_cases h : W < 2 ∨ 8 < W
  · left
    refine ⟨h, ?_⟩
    unfold hf
    repeat rw [if_neg (by omega)]
  · right
    have : W = 2 ∨ W = 3 ∨ W = 4 ∨ W = 5 ∨ W = 6 ∨ W = 7 ∨ W = 8 := by omega
    rcases this with rfl | rfl | rfl | rfl | rfl | rfl | rfl <;> simp [hf]
theorem hf_out {W : Int} (h : W < 2 ∨ 8 < W) : hf W = 0 := by
  rcases hf_cases W with ⟨_, h1⟩ | h1
  · exact h1
  · omega
def cut (h n : Int) : Int := if h = 0 then 0 else (n + h) % (2 * h) - h
def wrpP (W n : Int) : Int := cut (hf W) n
def loP (W : Int) : Int := - hf W
def hiP (W : Int) : Int := if hf W = 0 then 0 else hf W - 1
theorem wrp_bound (W n : Int) : -128 ≤ wrpP W n ∧ wrpP W n ≤ 127 := by
  unfold wrpP cut
  rcases hf_cases W with ⟨_, h⟩ | ⟨_, h⟩ | ⟨_, h⟩ | ⟨_, h⟩ | ⟨_, h⟩ | ⟨_, h⟩ | ⟨_, h⟩ | ⟨_, h⟩ <;> rw [h] <;> simp <;> omega
theorem wrp_in (W n : Int) (hw : hf W ≠ 0) : loP W ≤ wrpP W n ∧ wrpP W n ≤ hiP W := by
  unfold loP hiP wrpP cut
  rcases hf_cases W with ⟨_, h⟩ | ⟨_, h⟩ | ⟨_, h⟩ | ⟨_, h⟩ | ⟨_, h⟩ | ⟨_, h⟩ | ⟨_, h⟩ | ⟨_, h⟩
  · exact absurd h hw
  all_goals
    rw [h]
    simp
    omega
theorem wrp_same (W n : Int) (hw : hf W ≠ 0) : wrpP W n = n ↔ loP W ≤ n ∧ n ≤ hiP W := by
  unfold loP hiP wrpP cut
  rcases hf_cases W with ⟨_, h⟩ | ⟨_, h⟩ | ⟨_, h⟩ | ⟨_, h⟩ | ⟨_, h⟩ | ⟨_, h⟩ | ⟨_, h⟩ | ⟨_, h⟩
  · exact absurd h hw
  all_goals
    rw [h]
    simp
    omega
theorem shift_cut (W n : Int) (h : ¬ (W < 2 ∨ 8 < W)) : (IntKind.i64.wrap (n * 2 ^ min (64 - W).toNat 64)) / 2 ^ min (64 - W).toNat 64 = wrpP W n := by
  have : W = 2 ∨ W = 3 ∨ W = 4 ∨ W = 5 ∨ W = 6 ∨ W = 7 ∨ W = 8 := by omega
  rcases this with rfl | rfl | rfl | rfl | rfl | rfl | rfl <;> simp [wrpP, cut, hf, IntKind.wrap, IntKind.bits, IntKind.signed] <;> omega
def bt (b : Bool) : Int := if b then 1 else 0
theorem hf_bound {W : Int} (h : ¬ (W < 2 ∨ 8 < W)) : 2 ≤ hf W ∧ hf W ≤ 128 := by
  rcases hf_cases W with ⟨h1, _⟩ | h1
  · exact absurd h1 h
  · omega
theorem hf_in {W : Int} (h : ¬ (W < 2 ∨ 8 < W)) : hf W ≠ 0 := by
  rcases hf_cases W with ⟨h1, _⟩ | h1
  · exact absurd h1 h
  · omega
theorem cut_add (h n : Int) (hh : h ≠ 0) : ∃ k, cut h n = n + 2 * h * k := by
  unfold cut
  rw [if_neg hh]
  refine ⟨-((n + h) / (2 * h)), ?_⟩
  have e := Int.emod_add_mul_ediv (n + h) (2 * h)
  rw [Int.mul_neg]
  omega
theorem cut_same (h n m k : Int) (hh : 0 < h) (h1 : -h ≤ m) (h2 : m < h) (h3 : m = n + 2 * h * k) : cut h n = m := by
  unfold cut
  rw [if_neg (by omega)]
  have e : n + h = (m + h) + (2 * h) * (-k) := by rw [h3, Int.mul_neg]; omega
  rw [e, Int.add_mul_emod_self_left, Int.emod_eq_of_lt (by omega) (by omega)]
  omega
theorem hf_pos {W : Int} (h : ¬ (W < 2 ∨ 8 < W)) : 0 < hf W := by
  rcases hf_cases W with ⟨h1, _⟩ | h1
  · exact absurd h1 h
  · omega
theorem wrp_wrp (W n : Int) (h : ¬ (W < 2 ∨ 8 < W)) : wrpP W (wrpP W n) = wrpP W n := (wrp_same W _ (hf_in h)).2 (wrp_in W n (hf_in h))
theorem wrp_cong (W m n k : Int) (h : ¬ (W < 2 ∨ 8 < W)) (e : m = n + 2 * hf W * k) : wrpP W m = wrpP W n := by
  obtain ⟨j, hj⟩ := cut_add (hf W) m (hf_in h)
  have hb := wrp_in W m (hf_in h)
  unfold hiP loP at hb
  rw [if_neg (hf_in h)] at hb
  refine (cut_same (hf W) n (cut (hf W) m) (k + j) (hf_pos h) hb.1 (by have := hb.2; unfold wrpP at this; omega) ?_).symm
  rw [hj, e, Int.mul_add]
  omega
theorem wrp_diff (W n : Int) (h : ¬ (W < 2 ∨ 8 < W)) : ∃ k, wrpP W n = n + 2 * hf W * k := cut_add (hf W) n (hf_in h)
theorem wrp_sum (W m n : Int) (h : ¬ (W < 2 ∨ 8 < W)) : wrpP W (wrpP W m + wrpP W n) = wrpP W (m + n) := by
  obtain ⟨j, hj⟩ := wrp_diff W m h
  obtain ⟨k, hk⟩ := wrp_diff W n h
  refine wrp_cong W _ _ (j + k) h ?_
  rw [hj, hk, Int.mul_add]
  omega
theorem wrp_prod (W m n : Int) (h : ¬ (W < 2 ∨ 8 < W)) : wrpP W (wrpP W m * wrpP W n) = wrpP W (m * n) := by
  obtain ⟨j, hj⟩ := wrp_diff W m h
  obtain ⟨k, hk⟩ := wrp_diff W n h
  refine wrp_cong W _ _ (m * k + j * n + 2 * hf W * j * k) h ?_
  rw [hj, hk]
  simp only [Int.mul_add, Int.add_mul]
  have e1 : m * (2 * hf W * k) = 2 * hf W * (m * k) := by rw [← Int.mul_assoc, Int.mul_comm m, Int.mul_assoc]
  have e2 : 2 * hf W * j * n = 2 * hf W * (j * n) := by rw [Int.mul_assoc]
  have e3 : 2 * hf W * j * (2 * hf W * k) = 2 * hf W * (2 * hf W * j * k) := by rw [Int.mul_assoc (2 * hf W) j, ← Int.mul_assoc j, Int.mul_comm j, Int.mul_assoc (2 * hf W) j k]
  rw [e1, e2, e3]
  omega
theorem tdiv_tmod (x y : Int) : x.tdiv y * y + x.tmod y = x := by
  have := Int.tdiv_mul_add_tmod x y
  exact this
theorem div_back (W x y : Int) (h : ¬ (W < 2 ∨ 8 < W)) (hx : wrpP W x = x) (hy : wrpP W y = y) : wrpP W (wrpP W (wrpP W (x.tdiv y) * y) + wrpP W (x.tmod y)) = x := by
  rw [wrp_sum W _ _ h]
  have e : wrpP W (wrpP W (x.tdiv y) * y + x.tmod y) = wrpP W (x.tdiv y * y + x.tmod y) := by
    obtain ⟨j, hj⟩ := wrp_diff W (x.tdiv y) h
    refine wrp_cong W _ _ (j * y) h ?_
    rw [hj, Int.add_mul, Int.mul_assoc (2 * hf W)]
    omega
  rw [e, tdiv_tmod, hx]
theorem rest_abs (x y : Int) (hy : y ≠ 0) : (x.tmod y).natAbs < y.natAbs := by
  rw [Int.natAbs_tmod]
  exact Nat.mod_lt _ (by omega)
theorem rest_sign (x y : Int) (h : x.tmod y ≠ 0) : (x.tmod y < 0) ↔ x < 0 := by
  constructor
  · intro h1
    rcases Int.lt_or_le x 0 with h2 | h2
    · exact h2
    · have := Int.tmod_nonneg y h2
      omega
  · intro h1
    have h2 := Int.tmod_nonneg y (show 0 ≤ -x by omega)
    rw [Int.neg_tmod] at h2
    omega
theorem rest_in (W x y : Int) (h : ¬ (W < 2 ∨ 8 < W)) (hy : wrpP W y = y) (h0 : y ≠ 0) : wrpP W (x.tmod y) = x.tmod y := by
  rw [wrp_same W _ (hf_in h)]
  have h1 := (wrp_same W y (hf_in h)).1 hy
  have h2 := rest_abs x y h0
  unfold loP hiP at *
  rw [if_neg (hf_in h)] at *
  omega
theorem shift_full (W : Int) (h : ¬ (W < 2 ∨ 8 < W)) : wrap64 (2 ^ W.toNat) = 2 * hf W := by
  have : W = 2 ∨ W = 3 ∨ W = 4 ∨ W = 5 ∨ W = 6 ∨ W = 7 ∨ W = 8 := by omega
  rcases this with rfl | rfl | rfl | rfl | rfl | rfl | rfl <;> decide +kernel
theorem hf_pow {W : Int} (h : ¬ (W < 2 ∨ 8 < W)) : (2 : Int) ^ (W - 1).toNat = hf W ∧ (2 : Int) ^ W.toNat = 2 * hf W := by
  have : W = 2 ∨ W = 3 ∨ W = 4 ∨ W = 5 ∨ W = 6 ∨ W = 7 ∨ W = 8 := by omega
  rcases this with rfl | rfl | rfl | rfl | rfl | rfl | rfl <;> decide
theorem ref_cut (W n : Int) (h : ¬ (W < 2 ∨ 8 < W)) : wrpP W n = (if n.tmod (2 * hf W) < -hf W then n.tmod (2 * hf W) + 2 * hf W else if hf W - 1 < n.tmod (2 * hf W) then n.tmod (2 * hf W) - 2 * hf W else n.tmod (2 * hf W)) ∧ -300 ≤ n.tmod (2 * hf W) ∧ n.tmod (2 * hf W) ≤ 300 := by
  unfold wrpP cut
  rcases hf_cases W with ⟨h1, _⟩ | ⟨_, e⟩ | ⟨_, e⟩ | ⟨_, e⟩ | ⟨_, e⟩ | ⟨_, e⟩ | ⟨_, e⟩ | ⟨_, e⟩
  · exact absurd h1 h
  all_goals
    rw [e, Int.tmod_eq_emod]
    simp only [Int.reduceMul, Int.reduceNeg, Int.reduceSub, Int.reduceEq, if_false]
    split
    · refine ⟨?_, by omega⟩
      (repeat' split) <;> omega
    · refine ⟨?_, by simp only [Int.natAbs]; omega⟩
      (repeat' split) <;> omega
theorem wf_int {a : Int} (h : (Lit.int .i64 a).wf = true) : -9223372036854775808 ≤ a ∧ a ≤ 9223372036854775807 := by
  simp [Lit.wf, IntKind.min, IntKind.max, IntKind.bits, IntKind.signed] at h
  omega
end Go.Proofs.YtjgkcicgjnjepaaDoor
