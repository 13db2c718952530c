/- What is proved: plain arithmetic of the ints of a width; it speaks of no program. -/
import Derived.Test.YtoopnddlcofhoaaGreatDoorTyBase
set_option linter.unusedVariables false
namespace Go.Proofs.YtoopnddlcofhoaaGreatDoor
open Go.RowKit

/-- half as many as the ints of a width; 0 where there are none -/
def hf (W : Int) : Int := if W = 2 then 2 else if W = 3 then 4 else if W = 4 then 8 else if W = 5 then 16 else if W = 6 then 32 else if W = 7 then 64 else if W = 8 then 128 else 0
theorem hf_cases (W : Int) : ((W < 2 ∨ 8 < W) ∧ hf W = 0) ∨ (W = 2 ∧ hf W = 2) ∨ (W = 3 ∧ hf W = 4) ∨ (W = 4 ∧ hf W = 8) ∨ (W = 5 ∧ hf W = 16) ∨ (W = 6 ∧ hf W = 32) ∨ (W = 7 ∧ hf W = 64) ∨ (W = 8 ∧ hf W = 128) := by
  by_cases h : W < 2 ∨ 8 < W
  · left
    refine ⟨h, ?_⟩
    unfold hf
    repeat rw [if_neg (by omega)]
  · right
    have : W = 2 ∨ W = 3 ∨ W = 4 ∨ W = 5 ∨ W = 6 ∨ W = 7 ∨ W = 8 := by omega
    rcases this with rfl | rfl | rfl | rfl | rfl | rfl | rfl <;> simp [hf]
theorem hf_out {W : Int} (h : W < 2 ∨ 8 < W) : hf W = 0 := by
  rcases hf_cases W with ⟨_, h1⟩ | h1
  · exact h1
  · omega
/-- a number modulo the width -/
def cut (h n : Int) : Int := if h = 0 then 0 else (n + h) % (2 * h) - h
def wrpP (W n : Int) : Int := cut (hf W) n
def loP (W : Int) : Int := - hf W
def hiP (W : Int) : Int := if hf W = 0 then 0 else hf W - 1
/-- a bool, or an int of a width -/
def scB (W : Int) (t : Bool) (n : Int) : Bool := if t then n == 0 || n == 1 else n == wrpP W n
theorem wrp_bound (W n : Int) : -128 ≤ wrpP W n ∧ wrpP W n ≤ 127 := by
  unfold wrpP cut
  rcases hf_cases W with ⟨_, h⟩ | ⟨_, h⟩ | ⟨_, h⟩ | ⟨_, h⟩ | ⟨_, h⟩ | ⟨_, h⟩ | ⟨_, h⟩ | ⟨_, h⟩ <;> rw [h] <;> simp <;> omega
theorem wrp_in (W n : Int) (hw : hf W ≠ 0) : loP W ≤ wrpP W n ∧ wrpP W n ≤ hiP W := by
  unfold loP hiP wrpP cut
  rcases hf_cases W with ⟨_, h⟩ | ⟨_, h⟩ | ⟨_, h⟩ | ⟨_, h⟩ | ⟨_, h⟩ | ⟨_, h⟩ | ⟨_, h⟩ | ⟨_, h⟩
  · exact absurd h hw
  all_goals
    rw [h]
    simp
    omega
theorem wrp_same (W n : Int) (hw : hf W ≠ 0) : wrpP W n = n ↔ loP W ≤ n ∧ n ≤ hiP W := by
  unfold loP hiP wrpP cut
  rcases hf_cases W with ⟨_, h⟩ | ⟨_, h⟩ | ⟨_, h⟩ | ⟨_, h⟩ | ⟨_, h⟩ | ⟨_, h⟩ | ⟨_, h⟩ | ⟨_, h⟩
  · exact absurd h hw
  all_goals
    rw [h]
    simp
    omega
theorem sc_bound {W n : Int} {t : Bool} (h : scB W t n = true) : -128 ≤ n ∧ n ≤ 127 := by
  unfold scB at h
  cases t with
  | true => simp at h; omega
  | false => simp at h; have := wrp_bound W n; omega
/-- the shifts of the machine's numbers -/
theorem shift_cut (W n : Int) (h : ¬ (W < 2 ∨ 8 < W)) : (IntKind.i64.wrap (n * 2 ^ min (64 - W).toNat 64)) / 2 ^ min (64 - W).toNat 64 = wrpP W n := by
  have : W = 2 ∨ W = 3 ∨ W = 4 ∨ W = 5 ∨ W = 6 ∨ W = 7 ∨ W = 8 := by omega
  rcases this with rfl | rfl | rfl | rfl | rfl | rfl | rfl <;> simp [wrpP, cut, hf, IntKind.wrap, IntKind.bits, IntKind.signed] <;> omega

/-- the operators: + - * / % == != < <= > >= and or; 13 where there is none -/
def opN (s : List UInt8) : Nat :=
  if s = [43] then 0 else if s = [45] then 1 else if s = [42] then 2 else if s = [47] then 3 else if s = [37] then 4
  else if s = [61, 61] then 5 else if s = [33, 61] then 6 else if s = [60] then 7 else if s = [60, 61] then 8 else if s = [62] then 9 else if s = [62, 61] then 10
  else if s = [97, 110, 100] then 11 else if s = [111, 114] then 12 else 13
def bt (b : Bool) : Int := if b then 1 else 0
/-- what an operator makes of two scalars, and the fault -/
def rawP (k : Nat) (a b : Int) : Int × Int :=
  match k with
  | 0 => (a + b, 0)
  | 1 => (a - b, 0)
  | 2 => (a * b, 0)
  | 3 => if b = 0 then (0, 1) else (a.tdiv b, 0)
  | 4 => if b = 0 then (0, 1) else (a.tmod b, 0)
  | 5 => (bt (a == b), 0)
  | 6 => (bt (a != b), 0)
  | 7 => (bt (decide (a < b)), 0)
  | 8 => (bt (decide (a ≤ b)), 0)
  | 9 => (bt (decide (b < a)), 0)
  | 10 => (bt (decide (b ≤ a)), 0)
  | 11 => (min a b, 0)
  | _ => (max a b, 0)
/-- what Binary answers -/
def binP (W : Int) (k : Nat) (a b : Int) : Int × Int × Int :=
  if hf W = 0 then (0, 0, 2) else if k = 13 then (0, 0, 1) else if (scB W (decide (11 ≤ k)) a && scB W (decide (11 ≤ k)) b) = false then (0, 0, 2) else (wrpP W (rawP k a b).1, (rawP k a b).2, 0)
/-- what Unary answers: 0 is -, 1 is not -/
def unN (s : List UInt8) : Nat := if s = [45] then 0 else if s = [110, 111, 116] then 1 else 2
def unP (W : Int) (k : Nat) (a : Int) : Int × Int :=
  if hf W = 0 then (0, 2) else if k = 2 then (0, 1) else if scB W (decide (k = 1)) a = false then (0, 2) else (wrpP W (if k = 0 then -a else 1 - a), 0)
theorem ite_le {c : Prop} [Decidable c] {a b m : Nat} (h1 : a ≤ m) (h2 : b ≤ m) : (if c then a else b) ≤ m := by
  by_cases h : c
  · rw [if_pos h]; exact h1
  · rw [if_neg h]; exact h2
theorem opN_le (s : List UInt8) : opN s ≤ 13 := by
  unfold opN
  repeat refine ite_le (by decide) ?_
  exact Nat.le_refl _
theorem raw_bound (k : Nat) (a b : Int) (ha : -128 ≤ a ∧ a ≤ 127) (hb : -128 ≤ b ∧ b ≤ 127) : -20000 ≤ (rawP k a b).1 ∧ (rawP k a b).1 ≤ 20000 := by
  have hbt : ∀ x, 0 ≤ bt x ∧ bt x ≤ 1 := fun x => by cases x <;> simp [bt]
  have hm1 : -20000 ≤ a * b ∧ a * b ≤ 20000 := by
    have hn : (a * b).natAbs ≤ 128 * 128 := by
      rw [Int.natAbs_mul]
      exact Nat.mul_le_mul (by omega) (by omega)
    omega
  have hd : -20000 ≤ a.tdiv b ∧ a.tdiv b ≤ 20000 := by
    have hn : (a.tdiv b).natAbs ≤ a.natAbs := by
      rw [Int.natAbs_tdiv]
      exact Nat.div_le_self _ _
    omega
  have hr : -20000 ≤ a.tmod b ∧ a.tmod b ≤ 20000 := by
    have hn : (a.tmod b).natAbs ≤ a.natAbs := by
      rw [Int.natAbs_tmod]
      exact Nat.mod_le _ _
    omega
  unfold rawP
  split
  all_goals first
    | exact hm1
    | (simp only []; omega)
    | (have h1 := hbt (a == b); have h2 := hbt (a != b); have h3 := hbt (decide (a < b)); have h4 := hbt (decide (a ≤ b)); have h5 := hbt (decide (b < a)); have h6 := hbt (decide (b ≤ a)); simp only []; omega)
    | (split <;> simp only [] <;> omega)
end Go.Proofs.YtoopnddlcofhoaaGreatDoor
