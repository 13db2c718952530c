/- What is proved: the reference's kid says of which class a kid must be. -/
import Derived.Test.YtlpoeflbnpbmgaaGreatDoorShaped
set_option linter.unusedVariables false
namespace Go.Proofs.YtlpoeflbnpbmgaaGreatDoor
open Go.RowKit

theorem r_expr_any (n : NT) (w : World) : Calls Tryz.prog 73 #[.int .i64 n.kind] w fun e w' => e = .returned (.bool (exprB n)) ∧ w = w' := by
  unfold exprB
  generalize n.kind = k
  by_cases h1 : 20 ≤ k
  · have hv := Lib.hid (show decide (20 ≤ k ∧ k ≤ 29) = decide (k ≤ 29) by simp [h1])
    go_enter Tryz.func73, Tryz.ntmps73
    go_wp2_with (fail)
    go_ret
    exact ⟨retB hv.out, rfl⟩
  · have h1' : decide (20 ≤ k) = false := by simpa using h1
    have hv := Lib.hid (show decide (20 ≤ k ∧ k ≤ 29) = false by simp; omega)
    clear h1
    go_enter Tryz.func73, Tryz.ntmps73
    go_wp2_with (fail)
    go_ret
    exact ⟨retB hv.out, rfl⟩
theorem r_stmt_any (n : NT) (w : World) : Calls Tryz.prog 72 #[.int .i64 n.kind] w fun e w' => e = .returned (.bool (stmtB n)) ∧ w = w' := by
  unfold stmtB
  generalize n.kind = k
  by_cases h1 : 12 ≤ k
  · have hv := Lib.hid (show decide (12 ≤ k ∧ k ≤ 19) = decide (k ≤ 19) by simp [h1])
    go_enter Tryz.func72, Tryz.ntmps72
    go_wp2_with (fail)
    go_ret
    exact ⟨retB hv.out, rfl⟩
  · have h1' : decide (12 ≤ k) = false := by simpa using h1
    have hv := Lib.hid (show decide (12 ≤ k ∧ k ≤ 19) = false by simp; omega)
    clear h1
    go_enter Tryz.func72, Tryz.ntmps72
    go_wp2_with (fail)
    go_ret
    exact ⟨retB hv.out, rfl⟩
def typeB (k : Int) : Bool := k == 9 || k == 10
theorem r_type_any (k : Int) (w : World) : Calls Tryz.prog 71 #[.int .i64 k] w fun e w' => e = .returned (.bool (typeB k)) ∧ w = w' := by
  unfold typeB
  cases h : (k == 9) with
  | true =>
    go_enter Tryz.func71, Tryz.ntmps71
    go_wp2_with (fail)
    go_ret
    exact ⟨rfl, rfl⟩
  | false =>
    go_enter Tryz.func71, Tryz.ntmps71
    go_wp2_with (fail)
    go_ret
    exact ⟨rfl, rfl⟩
def placeB (k : Int) : Bool := k == 20 || (k == 21 || k == 22)
theorem r_place_any (k : Int) (w : World) : Calls Tryz.prog 74 #[.int .i64 k] w fun e w' => e = .returned (.bool (placeB k)) ∧ w = w' := by
  unfold placeB
  cases h : (k == 20) with
  | true =>
    go_enter Tryz.func74, Tryz.ntmps74
    go_wp2_with (fail)
    go_ret
    exact ⟨rfl, rfl⟩
  | false =>
    cases h2 : (k == 21) with
    | true =>
      go_enter Tryz.func74, Tryz.ntmps74
      go_wp2_with (fail)
      go_ret
      exact ⟨rfl, rfl⟩
    | false =>
      go_enter Tryz.func74, Tryz.ntmps74
      go_wp2_with (fail)
      go_ret
      exact ⟨rfl, rfl⟩
theorem kind1 (a : Int) (x : NT) : kindB [a] x = (x.kind == a) := by unfold kindB; rw [Bool.eq_iff_iff]; simp
theorem kind2 (a b : Int) (x : NT) : kindB [a, b] x = (x.kind == a || x.kind == b) := by unfold kindB; rw [Bool.eq_iff_iff]; simp
theorem kind3 (a b c : Int) (x : NT) : kindB [a, b, c] x = (x.kind == a || (x.kind == b || x.kind == c)) := by unfold kindB; rw [Bool.eq_iff_iff]; simp
theorem typed_eq (x : NT) : kindB [9, 10, 0] x = (typeB x.kind || x.kind == 0) := by rw [kind3]; unfold typeB; rw [Bool.or_assoc]
theorem place_eq (x : NT) : kindB [20, 21, 22] x = placeB x.kind := by rw [kind3]; rfl
theorem retOk_eq (x : NT) : retOkB x = (exprB x || x.kind == 0) := by unfold retOkB; rw [Bool.or_comm]
/-- a call that says whether a kid is of a class -/
def KidC (k i : Int) (p : NT → Bool) : Prop := ∀ (x : NT) (w : World), Calls Tryz.prog 53 #[.int .i64 k, .int .i64 i, .agg #[.int .i64 x.kind, .string x.text, .int .i64 x.lo, .int .i64 x.hi, .slice x.A x.kids.length x.c]] w fun e w' => e = .returned (.bool (p x)) ∧ Below w.heap.size w w'

set_option maxRecDepth 100000 in
theorem kid_2 (i : Int) : KidC 2 i (kindB [3, 5]) := fun x w => by
  cases h0 : (x.kind == 3) with
  | true =>
    have hv := Lib.hid (show kindB [3, 5] x = true from by have h := kind2 3 5 x; rw [h0] at h; exact h)
    go_enter Tryz.func53, Tryz.ntmps53
    go_wp2_with (fail)
    go_ret
    exact ⟨retB hv.out, (Below.refl _ _).alloc (Nat.le_refl _) _⟩
  | false =>
    have hv := Lib.hid (show kindB [3, 5] x = (x.kind == 5) from by have h := kind2 3 5 x; rw [h0] at h; exact h)
    go_enter Tryz.func53, Tryz.ntmps53
    go_wp2_with (fail)
    go_ret
    exact ⟨retB hv.out, (Below.refl _ _).alloc (Nat.le_refl _) _⟩

set_option maxRecDepth 100000 in
theorem kid_3 (i : Int) : KidC 3 i (kindB [4]) := fun x w => by
  have hv := Lib.hid (show kindB [4] x = (x.kind == 4) from by have h := kind1 4 x; exact h)
  go_enter Tryz.func53, Tryz.ntmps53
  go_wp2_with (fail)
  go_ret
  exact ⟨retB hv.out, (Below.refl _ _).alloc (Nat.le_refl _) _⟩

set_option maxRecDepth 100000 in
theorem kid_4_0 : KidC 4 0 (basicB) := fun x w => by
  cases h1 : (x.kind == 9) with
  | false =>
    have hv := Lib.hid (show basicB x = false by simp only [basicB, h1]; rfl)
    go_enter Tryz.func53, Tryz.ntmps53
    go_wp2_with (fail)
    go_ret
    exact ⟨retB hv.out, (Below.refl _ _).alloc (Nat.le_refl _) _⟩
  | true =>
    cases h2 : (x.text.toList == [105, 110, 116]) with
    | true =>
      have hv := Lib.hid (show basicB x = true by simp only [basicB, h1, h2]; rfl)
      go_enter Tryz.func53, Tryz.ntmps53
      go_wp2_with (fail)
      go_ret
      exact ⟨retB hv.out, (Below.refl _ _).alloc (Nat.le_refl _) _⟩
    | false =>
      have hv := Lib.hid (show basicB x = (x.text.toList == [98, 111, 111, 108]) by simp only [basicB, h1, h2]; simp)
      go_enter Tryz.func53, Tryz.ntmps53
      go_wp2_with (fail)
      go_ret
      exact ⟨retB hv.out, (Below.refl _ _).alloc (Nat.le_refl _) _⟩

set_option maxRecDepth 100000 in
theorem kid_5_0 : KidC 5 0 (kindB [6]) := fun x w => by
  cases h0 : (x.kind == 6) with
  | true =>
    have hv := Lib.hid (show kindB [6] x = true from by have h := kind1 6 x; rw [h0] at h; exact h)
    go_enter Tryz.func53, Tryz.ntmps53
    go_wp2_with (fail)
    go_ret
    exact ⟨retB hv.out, (Below.refl _ _).alloc (Nat.le_refl _) _⟩
  | false =>
    have hv := Lib.hid (show kindB [6] x = false from by have h := kind1 6 x; rw [h0] at h; exact h)
    go_enter Tryz.func53, Tryz.ntmps53
    go_wp2_with (fail)
    go_ret
    exact ⟨retB hv.out, (Below.refl _ _).alloc (Nat.le_refl _) _⟩

set_option maxRecDepth 100000 in
theorem kid_5_1 : KidC 5 1 (kindB [9, 10, 0]) := fun x w => by
  have hr := Lib.hid (fun w1 => r_type_any x.kind w1)
  have he := typed_eq x
  cases ht : typeB x.kind with
  | true =>
    rw [ht] at he hr
    have hv := Lib.hid (show kindB [9, 10, 0] x = true from he)
    clear he ht
    go_enter Tryz.func53, Tryz.ntmps53
    go_wp2_with (fail)
    refine (hr.out _).mono ?_
    rintro e w' ⟨rfl, rfl⟩
    go_wp2_with (fail)
    go_ret
    exact ⟨retB hv.out, (Below.refl _ _).alloc (Nat.le_refl _) _⟩
  | false =>
    rw [ht] at he hr
    cases h0 : (x.kind == 0) with
    | true =>
      have hv := Lib.hid (show kindB [9, 10, 0] x = true from by rw [h0] at he; exact he)
      clear he ht
      go_enter Tryz.func53, Tryz.ntmps53
      go_wp2_with (fail)
      refine (hr.out _).mono ?_
      rintro e w' ⟨rfl, rfl⟩
      go_wp2_with (fail)
      go_ret
      exact ⟨retB hv.out, (Below.refl _ _).alloc (Nat.le_refl _) _⟩
    | false =>
      have hv := Lib.hid (show kindB [9, 10, 0] x = false from by rw [h0] at he; exact he)
      clear he ht
      go_enter Tryz.func53, Tryz.ntmps53
      go_wp2_with (fail)
      refine (hr.out _).mono ?_
      rintro e w' ⟨rfl, rfl⟩
      go_wp2_with (fail)
      go_ret
      exact ⟨retB hv.out, (Below.refl _ _).alloc (Nat.le_refl _) _⟩

set_option maxRecDepth 100000 in
theorem kid_5_2 : KidC 5 2 (kindB [11]) := fun x w => by
  cases h0 : (x.kind == 11) with
  | true =>
    have hv := Lib.hid (show kindB [11] x = true from by have h := kind1 11 x; rw [h0] at h; exact h)
    go_enter Tryz.func53, Tryz.ntmps53
    go_wp2_with (fail)
    go_ret
    exact ⟨retB hv.out, (Below.refl _ _).alloc (Nat.le_refl _) _⟩
  | false =>
    have hv := Lib.hid (show kindB [11] x = false from by have h := kind1 11 x; rw [h0] at h; exact h)
    go_enter Tryz.func53, Tryz.ntmps53
    go_wp2_with (fail)
    go_ret
    exact ⟨retB hv.out, (Below.refl _ _).alloc (Nat.le_refl _) _⟩

set_option maxRecDepth 100000 in
theorem kid_6 (i : Int) : KidC 6 i (kindB [7, 8]) := fun x w => by
  cases h0 : (x.kind == 7) with
  | true =>
    have hv := Lib.hid (show kindB [7, 8] x = true from by have h := kind2 7 8 x; rw [h0] at h; exact h)
    go_enter Tryz.func53, Tryz.ntmps53
    go_wp2_with (fail)
    go_ret
    exact ⟨retB hv.out, (Below.refl _ _).alloc (Nat.le_refl _) _⟩
  | false =>
    have hv := Lib.hid (show kindB [7, 8] x = (x.kind == 8) from by have h := kind2 7 8 x; rw [h0] at h; exact h)
    go_enter Tryz.func53, Tryz.ntmps53
    go_wp2_with (fail)
    go_ret
    exact ⟨retB hv.out, (Below.refl _ _).alloc (Nat.le_refl _) _⟩

set_option maxRecDepth 100000 in
theorem kid_7_0 : KidC 7 0 (kindB [9, 10, 0]) := fun x w => by
  have hr := Lib.hid (fun w1 => r_type_any x.kind w1)
  have he := typed_eq x
  cases ht : typeB x.kind with
  | true =>
    rw [ht] at he hr
    have hv := Lib.hid (show kindB [9, 10, 0] x = true from he)
    clear he ht
    go_enter Tryz.func53, Tryz.ntmps53
    go_wp2_with (fail)
    refine (hr.out _).mono ?_
    rintro e w' ⟨rfl, rfl⟩
    go_wp2_with (fail)
    go_ret
    exact ⟨retB hv.out, (Below.refl _ _).alloc (Nat.le_refl _) _⟩
  | false =>
    rw [ht] at he hr
    have hv := Lib.hid (show kindB [9, 10, 0] x = (x.kind == 0) from he)
    clear he ht
    go_enter Tryz.func53, Tryz.ntmps53
    go_wp2_with (fail)
    refine (hr.out _).mono ?_
    rintro e w' ⟨rfl, rfl⟩
    go_wp2_with (fail)
    go_ret
    exact ⟨retB hv.out, (Below.refl _ _).alloc (Nat.le_refl _) _⟩

set_option maxRecDepth 100000 in
theorem kid_8_0 : KidC 8 0 (kindB [9, 10, 0]) := fun x w => by
  have hr := Lib.hid (fun w1 => r_type_any x.kind w1)
  have he := typed_eq x
  cases ht : typeB x.kind with
  | true =>
    rw [ht] at he hr
    have hv := Lib.hid (show kindB [9, 10, 0] x = true from he)
    clear he ht
    go_enter Tryz.func53, Tryz.ntmps53
    go_wp2_with (fail)
    refine (hr.out _).mono ?_
    rintro e w' ⟨rfl, rfl⟩
    go_wp2_with (fail)
    go_ret
    exact ⟨retB hv.out, (Below.refl _ _).alloc (Nat.le_refl _) _⟩
  | false =>
    rw [ht] at he hr
    have hv := Lib.hid (show kindB [9, 10, 0] x = (x.kind == 0) from he)
    clear he ht
    go_enter Tryz.func53, Tryz.ntmps53
    go_wp2_with (fail)
    refine (hr.out _).mono ?_
    rintro e w' ⟨rfl, rfl⟩
    go_wp2_with (fail)
    go_ret
    exact ⟨retB hv.out, (Below.refl _ _).alloc (Nat.le_refl _) _⟩

set_option maxRecDepth 100000 in
theorem kid_11 (i : Int) : KidC 11 i (stmtB) := fun x w => by
  go_enter Tryz.func53, Tryz.ntmps53
  go_wp2_with (fail)
  refine (r_stmt_any x _).mono ?_
  rintro e w' ⟨rfl, rfl⟩
  go_wp2_with (fail)
  go_ret
  exact ⟨rfl, (Below.refl _ _).alloc (Nat.le_refl _) _⟩

set_option maxRecDepth 100000 in
theorem kid_12_0 : KidC 12 0 (kindB [9, 10, 0]) := fun x w => by
  have hr := Lib.hid (fun w1 => r_type_any x.kind w1)
  have he := typed_eq x
  cases ht : typeB x.kind with
  | true =>
    rw [ht] at he hr
    have hv := Lib.hid (show kindB [9, 10, 0] x = true from he)
    clear he ht
    go_enter Tryz.func53, Tryz.ntmps53
    go_wp2_with (fail)
    refine (hr.out _).mono ?_
    rintro e w' ⟨rfl, rfl⟩
    go_wp2_with (fail)
    go_ret
    exact ⟨retB hv.out, (Below.refl _ _).alloc (Nat.le_refl _) _⟩
  | false =>
    rw [ht] at he hr
    cases h0 : (x.kind == 0) with
    | true =>
      have hv := Lib.hid (show kindB [9, 10, 0] x = true from by rw [h0] at he; exact he)
      clear he ht
      go_enter Tryz.func53, Tryz.ntmps53
      go_wp2_with (fail)
      refine (hr.out _).mono ?_
      rintro e w' ⟨rfl, rfl⟩
      go_wp2_with (fail)
      go_ret
      exact ⟨retB hv.out, (Below.refl _ _).alloc (Nat.le_refl _) _⟩
    | false =>
      have hv := Lib.hid (show kindB [9, 10, 0] x = false from by rw [h0] at he; exact he)
      clear he ht
      go_enter Tryz.func53, Tryz.ntmps53
      go_wp2_with (fail)
      refine (hr.out _).mono ?_
      rintro e w' ⟨rfl, rfl⟩
      go_wp2_with (fail)
      go_ret
      exact ⟨retB hv.out, (Below.refl _ _).alloc (Nat.le_refl _) _⟩

set_option maxRecDepth 100000 in
theorem kid_12_1 : KidC 12 1 (exprB) := fun x w => by
  have hr := Lib.hid (fun w1 => r_expr_any x w1)
  cases ht : exprB x with
  | true =>
    rw [ht] at hr
    clear ht
    go_enter Tryz.func53, Tryz.ntmps53
    go_wp2_with (fail)
    refine (hr.out _).mono ?_
    rintro e w' ⟨rfl, rfl⟩
    go_wp2_with (fail)
    go_ret
    exact ⟨rfl, (Below.refl _ _).alloc (Nat.le_refl _) _⟩
  | false =>
    rw [ht] at hr
    clear ht
    go_enter Tryz.func53, Tryz.ntmps53
    go_wp2_with (fail)
    refine (hr.out _).mono ?_
    rintro e w' ⟨rfl, rfl⟩
    go_wp2_with (fail)
    go_ret
    exact ⟨rfl, (Below.refl _ _).alloc (Nat.le_refl _) _⟩

set_option maxRecDepth 100000 in
theorem kid_13_0 : KidC 13 0 (kindB [20, 21, 22]) := fun x w => by
  have hr := Lib.hid (fun w1 => r_place_any x.kind w1)
  have he := place_eq x
  cases ht : placeB x.kind with
  | true =>
    rw [ht] at hr he
    have hv := Lib.hid he
    clear ht he
    go_enter Tryz.func53, Tryz.ntmps53
    go_wp2_with (fail)
    refine (hr.out _).mono ?_
    rintro e w' ⟨rfl, rfl⟩
    go_wp2_with (fail)
    go_ret
    exact ⟨retB hv.out, (Below.refl _ _).alloc (Nat.le_refl _) _⟩
  | false =>
    rw [ht] at hr he
    have hv := Lib.hid he
    clear ht he
    go_enter Tryz.func53, Tryz.ntmps53
    go_wp2_with (fail)
    refine (hr.out _).mono ?_
    rintro e w' ⟨rfl, rfl⟩
    go_wp2_with (fail)
    go_ret
    exact ⟨retB hv.out, (Below.refl _ _).alloc (Nat.le_refl _) _⟩

set_option maxRecDepth 100000 in
theorem kid_13_1 : KidC 13 1 (exprB) := fun x w => by
  have hr := Lib.hid (fun w1 => r_expr_any x w1)
  cases ht : exprB x with
  | true =>
    rw [ht] at hr
    clear ht
    go_enter Tryz.func53, Tryz.ntmps53
    go_wp2_with (fail)
    refine (hr.out _).mono ?_
    rintro e w' ⟨rfl, rfl⟩
    go_wp2_with (fail)
    go_ret
    exact ⟨rfl, (Below.refl _ _).alloc (Nat.le_refl _) _⟩
  | false =>
    rw [ht] at hr
    clear ht
    go_enter Tryz.func53, Tryz.ntmps53
    go_wp2_with (fail)
    refine (hr.out _).mono ?_
    rintro e w' ⟨rfl, rfl⟩
    go_wp2_with (fail)
    go_ret
    exact ⟨rfl, (Below.refl _ _).alloc (Nat.le_refl _) _⟩

set_option maxRecDepth 100000 in
theorem kid_14_0 : KidC 14 0 (exprB) := fun x w => by
  have hr := Lib.hid (fun w1 => r_expr_any x w1)
  cases ht : exprB x with
  | true =>
    rw [ht] at hr
    clear ht
    go_enter Tryz.func53, Tryz.ntmps53
    go_wp2_with (fail)
    refine (hr.out _).mono ?_
    rintro e w' ⟨rfl, rfl⟩
    go_wp2_with (fail)
    go_ret
    exact ⟨rfl, (Below.refl _ _).alloc (Nat.le_refl _) _⟩
  | false =>
    rw [ht] at hr
    clear ht
    go_enter Tryz.func53, Tryz.ntmps53
    go_wp2_with (fail)
    refine (hr.out _).mono ?_
    rintro e w' ⟨rfl, rfl⟩
    go_wp2_with (fail)
    go_ret
    exact ⟨rfl, (Below.refl _ _).alloc (Nat.le_refl _) _⟩

set_option maxRecDepth 100000 in
theorem kid_14_1 : KidC 14 1 (kindB [11]) := fun x w => by
  cases h0 : (x.kind == 11) with
  | true =>
    have hv := Lib.hid (show kindB [11] x = true from by have h := kind1 11 x; rw [h0] at h; exact h)
    go_enter Tryz.func53, Tryz.ntmps53
    go_wp2_with (fail)
    go_ret
    exact ⟨retB hv.out, (Below.refl _ _).alloc (Nat.le_refl _) _⟩
  | false =>
    have hv := Lib.hid (show kindB [11] x = false from by have h := kind1 11 x; rw [h0] at h; exact h)
    go_enter Tryz.func53, Tryz.ntmps53
    go_wp2_with (fail)
    go_ret
    exact ⟨retB hv.out, (Below.refl _ _).alloc (Nat.le_refl _) _⟩

set_option maxRecDepth 100000 in
theorem kid_14_2 : KidC 14 2 (kindB [11, 14, 0]) := fun x w => by
  cases h0 : (x.kind == 11) with
  | true =>
    have hv := Lib.hid (show kindB [11, 14, 0] x = true from by have h := kind3 11 14 0 x; rw [h0] at h; exact h)
    go_enter Tryz.func53, Tryz.ntmps53
    go_wp2_with (fail)
    go_ret
    exact ⟨retB hv.out, (Below.refl _ _).alloc (Nat.le_refl _) _⟩
  | false =>
    cases h1 : (x.kind == 14) with
    | true =>
      have hv := Lib.hid (show kindB [11, 14, 0] x = true from by have h := kind3 11 14 0 x; rw [h0] at h; rw [h1] at h; exact h)
      go_enter Tryz.func53, Tryz.ntmps53
      go_wp2_with (fail)
      go_ret
      exact ⟨retB hv.out, (Below.refl _ _).alloc (Nat.le_refl _) _⟩
    | false =>
      cases h2 : (x.kind == 0) with
      | true =>
        have hv := Lib.hid (show kindB [11, 14, 0] x = true from by have h := kind3 11 14 0 x; rw [h0] at h; rw [h1] at h; rw [h2] at h; exact h)
        go_enter Tryz.func53, Tryz.ntmps53
        go_wp2_with (fail)
        go_ret
        exact ⟨retB hv.out, (Below.refl _ _).alloc (Nat.le_refl _) _⟩
      | false =>
        have hv := Lib.hid (show kindB [11, 14, 0] x = false from by have h := kind3 11 14 0 x; rw [h0] at h; rw [h1] at h; rw [h2] at h; exact h)
        go_enter Tryz.func53, Tryz.ntmps53
        go_wp2_with (fail)
        go_ret
        exact ⟨retB hv.out, (Below.refl _ _).alloc (Nat.le_refl _) _⟩

set_option maxRecDepth 100000 in
theorem kid_15_0 : KidC 15 0 (exprB) := fun x w => by
  have hr := Lib.hid (fun w1 => r_expr_any x w1)
  cases ht : exprB x with
  | true =>
    rw [ht] at hr
    clear ht
    go_enter Tryz.func53, Tryz.ntmps53
    go_wp2_with (fail)
    refine (hr.out _).mono ?_
    rintro e w' ⟨rfl, rfl⟩
    go_wp2_with (fail)
    go_ret
    exact ⟨rfl, (Below.refl _ _).alloc (Nat.le_refl _) _⟩
  | false =>
    rw [ht] at hr
    clear ht
    go_enter Tryz.func53, Tryz.ntmps53
    go_wp2_with (fail)
    refine (hr.out _).mono ?_
    rintro e w' ⟨rfl, rfl⟩
    go_wp2_with (fail)
    go_ret
    exact ⟨rfl, (Below.refl _ _).alloc (Nat.le_refl _) _⟩

set_option maxRecDepth 100000 in
theorem kid_15_1 : KidC 15 1 (kindB [11]) := fun x w => by
  cases h0 : (x.kind == 11) with
  | true =>
    have hv := Lib.hid (show kindB [11] x = true from by have h := kind1 11 x; rw [h0] at h; exact h)
    go_enter Tryz.func53, Tryz.ntmps53
    go_wp2_with (fail)
    go_ret
    exact ⟨retB hv.out, (Below.refl _ _).alloc (Nat.le_refl _) _⟩
  | false =>
    have hv := Lib.hid (show kindB [11] x = false from by have h := kind1 11 x; rw [h0] at h; exact h)
    go_enter Tryz.func53, Tryz.ntmps53
    go_wp2_with (fail)
    go_ret
    exact ⟨retB hv.out, (Below.refl _ _).alloc (Nat.le_refl _) _⟩

set_option maxRecDepth 100000 in
theorem kid_16_0 : KidC 16 0 (exprB) := fun x w => by
  have hr := Lib.hid (fun w1 => r_expr_any x w1)
  cases ht : exprB x with
  | true =>
    rw [ht] at hr
    clear ht
    go_enter Tryz.func53, Tryz.ntmps53
    go_wp2_with (fail)
    refine (hr.out _).mono ?_
    rintro e w' ⟨rfl, rfl⟩
    go_wp2_with (fail)
    go_ret
    exact ⟨rfl, (Below.refl _ _).alloc (Nat.le_refl _) _⟩
  | false =>
    rw [ht] at hr
    clear ht
    go_enter Tryz.func53, Tryz.ntmps53
    go_wp2_with (fail)
    refine (hr.out _).mono ?_
    rintro e w' ⟨rfl, rfl⟩
    go_wp2_with (fail)
    go_ret
    exact ⟨rfl, (Below.refl _ _).alloc (Nat.le_refl _) _⟩

set_option maxRecDepth 100000 in
theorem kid_16_1 : KidC 16 1 (exprB) := fun x w => by
  have hr := Lib.hid (fun w1 => r_expr_any x w1)
  cases ht : exprB x with
  | true =>
    rw [ht] at hr
    clear ht
    go_enter Tryz.func53, Tryz.ntmps53
    go_wp2_with (fail)
    refine (hr.out _).mono ?_
    rintro e w' ⟨rfl, rfl⟩
    go_wp2_with (fail)
    go_ret
    exact ⟨rfl, (Below.refl _ _).alloc (Nat.le_refl _) _⟩
  | false =>
    rw [ht] at hr
    clear ht
    go_enter Tryz.func53, Tryz.ntmps53
    go_wp2_with (fail)
    refine (hr.out _).mono ?_
    rintro e w' ⟨rfl, rfl⟩
    go_wp2_with (fail)
    go_ret
    exact ⟨rfl, (Below.refl _ _).alloc (Nat.le_refl _) _⟩

set_option maxRecDepth 100000 in
theorem kid_16_2 : KidC 16 2 (kindB [11]) := fun x w => by
  cases h0 : (x.kind == 11) with
  | true =>
    have hv := Lib.hid (show kindB [11] x = true from by have h := kind1 11 x; rw [h0] at h; exact h)
    go_enter Tryz.func53, Tryz.ntmps53
    go_wp2_with (fail)
    go_ret
    exact ⟨retB hv.out, (Below.refl _ _).alloc (Nat.le_refl _) _⟩
  | false =>
    have hv := Lib.hid (show kindB [11] x = false from by have h := kind1 11 x; rw [h0] at h; exact h)
    go_enter Tryz.func53, Tryz.ntmps53
    go_wp2_with (fail)
    go_ret
    exact ⟨retB hv.out, (Below.refl _ _).alloc (Nat.le_refl _) _⟩

set_option maxRecDepth 100000 in
theorem kid_17_0 : KidC 17 0 (retOkB) := fun x w => by
  have hr := Lib.hid (fun w1 => r_expr_any x w1)
  have he := retOk_eq x
  cases ht : exprB x with
  | true =>
    rw [ht] at he hr
    have hv := Lib.hid (show retOkB x = true from he)
    clear he ht
    go_enter Tryz.func53, Tryz.ntmps53
    go_wp2_with (fail)
    refine (hr.out _).mono ?_
    rintro e w' ⟨rfl, rfl⟩
    go_wp2_with (fail)
    go_ret
    exact ⟨retB hv.out, (Below.refl _ _).alloc (Nat.le_refl _) _⟩
  | false =>
    rw [ht] at he hr
    have hv := Lib.hid (show retOkB x = (x.kind == 0) from he)
    clear he ht
    go_enter Tryz.func53, Tryz.ntmps53
    go_wp2_with (fail)
    refine (hr.out _).mono ?_
    rintro e w' ⟨rfl, rfl⟩
    go_wp2_with (fail)
    go_ret
    exact ⟨retB hv.out, (Below.refl _ _).alloc (Nat.le_refl _) _⟩

set_option maxRecDepth 100000 in
theorem kid_18_0 : KidC 18 0 (exprB) := fun x w => by
  go_enter Tryz.func53, Tryz.ntmps53
  go_wp2_with (fail)
  refine (r_expr_any x _).mono ?_
  rintro e w' ⟨rfl, rfl⟩
  go_wp2_with (fail)
  go_ret
  exact ⟨rfl, (Below.refl _ _).alloc (Nat.le_refl _) _⟩

set_option maxRecDepth 100000 in
theorem kid_19 (i : Int) : KidC 19 i (exprB) := fun x w => by
  go_enter Tryz.func53, Tryz.ntmps53
  go_wp2_with (fail)
  refine (r_expr_any x _).mono ?_
  rintro e w' ⟨rfl, rfl⟩
  go_wp2_with (fail)
  go_ret
  exact ⟨rfl, (Below.refl _ _).alloc (Nat.le_refl _) _⟩

set_option maxRecDepth 100000 in
theorem kid_21_0 : KidC 21 0 (kindB [20]) := fun x w => by
  cases h0 : (x.kind == 20) with
  | true =>
    have hv := Lib.hid (show kindB [20] x = true from by have h := kind1 20 x; rw [h0] at h; exact h)
    go_enter Tryz.func53, Tryz.ntmps53
    go_wp2_with (fail)
    go_ret
    exact ⟨retB hv.out, (Below.refl _ _).alloc (Nat.le_refl _) _⟩
  | false =>
    have hv := Lib.hid (show kindB [20] x = false from by have h := kind1 20 x; rw [h0] at h; exact h)
    go_enter Tryz.func53, Tryz.ntmps53
    go_wp2_with (fail)
    go_ret
    exact ⟨retB hv.out, (Below.refl _ _).alloc (Nat.le_refl _) _⟩

set_option maxRecDepth 100000 in
theorem kid_21_1 : KidC 21 1 (exprB) := fun x w => by
  have hr := Lib.hid (fun w1 => r_expr_any x w1)
  cases ht : exprB x with
  | true =>
    rw [ht] at hr
    clear ht
    go_enter Tryz.func53, Tryz.ntmps53
    go_wp2_with (fail)
    refine (hr.out _).mono ?_
    rintro e w' ⟨rfl, rfl⟩
    go_wp2_with (fail)
    go_ret
    exact ⟨rfl, (Below.refl _ _).alloc (Nat.le_refl _) _⟩
  | false =>
    rw [ht] at hr
    clear ht
    go_enter Tryz.func53, Tryz.ntmps53
    go_wp2_with (fail)
    refine (hr.out _).mono ?_
    rintro e w' ⟨rfl, rfl⟩
    go_wp2_with (fail)
    go_ret
    exact ⟨rfl, (Below.refl _ _).alloc (Nat.le_refl _) _⟩

set_option maxRecDepth 100000 in
theorem kid_22_0 : KidC 22 0 (kindB [20]) := fun x w => by
  have hv := Lib.hid (show kindB [20] x = (x.kind == 20) from by have h := kind1 20 x; exact h)
  go_enter Tryz.func53, Tryz.ntmps53
  go_wp2_with (fail)
  go_ret
  exact ⟨retB hv.out, (Below.refl _ _).alloc (Nat.le_refl _) _⟩

set_option maxRecDepth 100000 in
theorem kid_23_0 : KidC 23 0 (kindB [20]) := fun x w => by
  have hv := Lib.hid (show kindB [20] x = (x.kind == 20) from by have h := kind1 20 x; exact h)
  go_enter Tryz.func53, Tryz.ntmps53
  go_wp2_with (fail)
  go_ret
  exact ⟨retB hv.out, (Below.refl _ _).alloc (Nat.le_refl _) _⟩

set_option maxRecDepth 100000 in
theorem kid_26 (i : Int) : KidC 26 i (exprB) := fun x w => by
  go_enter Tryz.func53, Tryz.ntmps53
  go_wp2_with (fail)
  refine (r_expr_any x _).mono ?_
  rintro e w' ⟨rfl, rfl⟩
  go_wp2_with (fail)
  go_ret
  exact ⟨rfl, (Below.refl _ _).alloc (Nat.le_refl _) _⟩

set_option maxRecDepth 100000 in
theorem kid_27 (i : Int) : KidC 27 i (exprB) := fun x w => by
  go_enter Tryz.func53, Tryz.ntmps53
  go_wp2_with (fail)
  refine (r_expr_any x _).mono ?_
  rintro e w' ⟨rfl, rfl⟩
  go_wp2_with (fail)
  go_ret
  exact ⟨rfl, (Below.refl _ _).alloc (Nat.le_refl _) _⟩

set_option maxRecDepth 100000 in
theorem kid_28_0 : KidC 28 0 (exprB) := fun x w => by
  go_enter Tryz.func53, Tryz.ntmps53
  go_wp2_with (fail)
  refine (r_expr_any x _).mono ?_
  rintro e w' ⟨rfl, rfl⟩
  go_wp2_with (fail)
  go_ret
  exact ⟨rfl, (Below.refl _ _).alloc (Nat.le_refl _) _⟩

set_option maxRecDepth 100000 in
theorem kid_29_0 : KidC 29 0 (exprB) := fun x w => by
  have hr := Lib.hid (fun w1 => r_expr_any x w1)
  cases ht : exprB x with
  | true =>
    rw [ht] at hr
    clear ht
    go_enter Tryz.func53, Tryz.ntmps53
    go_wp2_with (fail)
    refine (hr.out _).mono ?_
    rintro e w' ⟨rfl, rfl⟩
    go_wp2_with (fail)
    go_ret
    exact ⟨rfl, (Below.refl _ _).alloc (Nat.le_refl _) _⟩
  | false =>
    rw [ht] at hr
    clear ht
    go_enter Tryz.func53, Tryz.ntmps53
    go_wp2_with (fail)
    refine (hr.out _).mono ?_
    rintro e w' ⟨rfl, rfl⟩
    go_wp2_with (fail)
    go_ret
    exact ⟨rfl, (Below.refl _ _).alloc (Nat.le_refl _) _⟩

set_option maxRecDepth 100000 in
theorem kid_29_1 : KidC 29 1 (exprB) := fun x w => by
  have hr := Lib.hid (fun w1 => r_expr_any x w1)
  cases ht : exprB x with
  | true =>
    rw [ht] at hr
    clear ht
    go_enter Tryz.func53, Tryz.ntmps53
    go_wp2_with (fail)
    refine (hr.out _).mono ?_
    rintro e w' ⟨rfl, rfl⟩
    go_wp2_with (fail)
    go_ret
    exact ⟨rfl, (Below.refl _ _).alloc (Nat.le_refl _) _⟩
  | false =>
    rw [ht] at hr
    clear ht
    go_enter Tryz.func53, Tryz.ntmps53
    go_wp2_with (fail)
    refine (hr.out _).mono ?_
    rintro e w' ⟨rfl, rfl⟩
    go_wp2_with (fail)
    go_ret
    exact ⟨rfl, (Below.refl _ _).alloc (Nat.le_refl _) _⟩
end Go.Proofs.YtlpoeflbnpbmgaaGreatDoor
