/- What is proved: the reference's most says how many kids a kind has; the plain check of kids, one after another. -/
import Derived.Test.YtlpoeflbnpbmgaaGreatDoorRefKid
set_option linter.unusedVariables false
namespace Go.Proofs.YtlpoeflbnpbmgaaGreatDoor
open Go.RowKit

/-- the least number of kids -/
def loK (k : Int) : Int :=
  if k = 3 ∨ k = 4 ∨ k = 7 ∨ k = 8 ∨ k = 17 ∨ k = 18 ∨ k = 22 ∨ k = 23 ∨ k = 26 ∨ k = 28 then 1 else if k = 12 ∨ k = 13 ∨ k = 15 ∨ k = 21 ∨ k = 29 then 2 else if k = 5 ∨ k = 14 ∨ k = 16 then 3 else 0

/-- the greatest number of kids -/
def hiK (k : Int) : Int :=
  if k = 4 ∨ k = 7 ∨ k = 8 ∨ k = 17 ∨ k = 18 ∨ k = 22 ∨ k = 23 ∨ k = 28 then 1 else if k = 12 ∨ k = 13 ∨ k = 15 ∨ k = 21 ∨ k = 29 then 2 else if k = 5 ∨ k = 14 ∨ k = 16 then 3 else if k = 2 ∨ k = 3 ∨ k = 6 ∨ k = 11 ∨ k = 19 ∨ k = 26 ∨ k = 27 then 4096 else 0

theorem kinds29 {k : Int} (h : kindOk k = true) : k = 0 ∨ k = 2 ∨ k = 3 ∨ k = 4 ∨ k = 5 ∨ k = 6 ∨ k = 7 ∨ k = 8 ∨ k = 9 ∨ k = 10 ∨ k = 11 ∨ k = 12 ∨ k = 13 ∨ k = 14 ∨ k = 15 ∨ k = 16 ∨ k = 17 ∨ k = 18 ∨ k = 19 ∨ k = 20 ∨ k = 21 ∨ k = 22 ∨ k = 23 ∨ k = 24 ∨ k = 25 ∨ k = 26 ∨ k = 27 ∨ k = 28 ∨ k = 29 := by
  unfold kindOk at h
  simp only [decide_eq_true_eq] at h
  omega

set_option maxRecDepth 100000 in
set_option maxHeartbeats 4000000 in
theorem r_most_any (k : Int) (h : kindOk k = true) (w : World) : Calls Tryz.prog 52 #[.int .i64 k] w fun e w' => e = .returned (.tuple #[.int .i64 (loK k), .int .i64 (hiK k)]) ∧ w = w' := by
  rcases kinds29 h with rfl | rfl | rfl | rfl | rfl | rfl | rfl | rfl | rfl | rfl | rfl | rfl | rfl | rfl | rfl | rfl | rfl | rfl | rfl | rfl | rfl | rfl | rfl | rfl | rfl | rfl | rfl | rfl | rfl
  all_goals
    clear h
    go_enter Tryz.func52, Tryz.ntmps52
    go_wp2_with (fail)
    go_ret2
    exact ⟨rfl, rfl⟩

/-- the class of the kid with an index -/
def clsAt (k : Int) (i : Nat) : NT → Bool :=
  if k = 2 then kindB [3, 5] else if k = 3 then kindB [4] else if k = 4 then basicB else if k = 5 then (if i = 0 then kindB [6] else if i = 1 then kindB [9, 10, 0] else kindB [11]) else if k = 6 then kindB [7, 8] else if k = 7 then kindB [9, 10, 0] else if k = 8 then kindB [9, 10, 0] else if k = 11 then stmtB else if k = 12 then (if i = 0 then kindB [9, 10, 0] else exprB) else if k = 13 then (if i = 0 then kindB [20, 21, 22] else exprB) else if k = 14 then (if i = 0 then exprB else if i = 1 then kindB [11] else kindB [11, 14, 0]) else if k = 15 then (if i = 0 then exprB else kindB [11]) else if k = 16 then (if i = 0 then exprB else if i = 1 then exprB else kindB [11]) else if k = 17 then retOkB else if k = 18 then exprB else if k = 19 then exprB else if k = 21 then (if i = 0 then kindB [20] else exprB) else if k = 22 then kindB [20] else if k = 23 then kindB [20] else if k = 26 then exprB else if k = 27 then exprB else if k = 28 then exprB else if k = 29 then (if i = 0 then exprB else exprB) else fun _ => false

/-- the kids from the i-th on, one after another -/
def goB (k : Int) : Nat → List NT → Bool
  | _, [] => true
  | i, x :: xs => clsAt k i x && goB k (i + 1) xs
theorem goB_all {k : Int} {p : NT → Bool} (h : ∀ i, clsAt k i = p) (l : List NT) : ∀ i, goB k i l = l.all p := by
  induction l with
  | nil => intro i; rfl
  | cons x xs ih => intro i; simp only [goB, List.all_cons, h, ih]

set_option maxRecDepth 100000 in
theorem kids_eq {k : Int} (h : kindOk k = true) (l : List NT) (hl : l.length ≤ 4096) : kidsB k l = (decide (loK k ≤ (l.length : Int)) && decide ((l.length : Int) ≤ hiK k) && goB k 0 l) := by
  rcases kinds29 h with rfl | rfl | rfl | rfl | rfl | rfl | rfl | rfl | rfl | rfl | rfl | rfl | rfl | rfl | rfl | rfl | rfl | rfl | rfl | rfl | rfl | rfl | rfl | rfl | rfl | rfl | rfl | rfl | rfl
  · show rowB [] l = (decide ((0 : Int) ≤ (l.length : Int)) && decide ((l.length : Int) ≤ 0) && goB 0 0 l)
    by_cases hn : l.length = 0
    · have : l = [] := List.eq_nil_of_length_eq_zero hn
      subst this
      rfl
    · rw [rowB_len _ _ (by simpa using hn)]
      have e : (decide ((0 : Int) ≤ (l.length : Int)) && decide ((l.length : Int) ≤ 0)) = false := by
        rw [Bool.and_eq_false_iff, decide_eq_false_iff_not, decide_eq_false_iff_not]; omega
      rw [e]; rfl
  · rw [goB_all (p := kindB [3, 5]) (fun i => rfl)]
    show manyB 0 (kindB [3, 5]) l = (decide ((0 : Int) ≤ (l.length : Int)) && decide ((l.length : Int) ≤ 4096) && l.all (kindB [3, 5]))
    unfold manyB
    rw [show decide ((l.length : Int) ≤ 4096) = true from decide_eq_true (by omega), Bool.and_true]
  · rw [goB_all (p := kindB [4]) (fun i => rfl)]
    show manyB 1 (kindB [4]) l = (decide ((1 : Int) ≤ (l.length : Int)) && decide ((l.length : Int) ≤ 4096) && l.all (kindB [4]))
    unfold manyB
    rw [show decide ((l.length : Int) ≤ 4096) = true from decide_eq_true (by omega), Bool.and_true]
  · show rowB [basicB] l = (decide ((1 : Int) ≤ (l.length : Int)) && decide ((l.length : Int) ≤ 1) && goB 4 0 l)
    by_cases hn : l.length = 1
    · match l, hn with
      | [a], _ => rfl
    · rw [rowB_len _ _ (by simpa using hn)]
      have e : (decide ((1 : Int) ≤ (l.length : Int)) && decide ((l.length : Int) ≤ 1)) = false := by
        rw [Bool.and_eq_false_iff, decide_eq_false_iff_not, decide_eq_false_iff_not]; omega
      rw [e]; rfl
  · show rowB [kindB [6], kindB [9, 10, 0], kindB [11]] l = (decide ((3 : Int) ≤ (l.length : Int)) && decide ((l.length : Int) ≤ 3) && goB 5 0 l)
    by_cases hn : l.length = 3
    · match l, hn with
      | [a, b, c], _ => rfl
    · rw [rowB_len _ _ (by simpa using hn)]
      have e : (decide ((3 : Int) ≤ (l.length : Int)) && decide ((l.length : Int) ≤ 3)) = false := by
        rw [Bool.and_eq_false_iff, decide_eq_false_iff_not, decide_eq_false_iff_not]; omega
      rw [e]; rfl
  · rw [goB_all (p := kindB [7, 8]) (fun i => rfl)]
    show manyB 0 (kindB [7, 8]) l = (decide ((0 : Int) ≤ (l.length : Int)) && decide ((l.length : Int) ≤ 4096) && l.all (kindB [7, 8]))
    unfold manyB
    rw [show decide ((l.length : Int) ≤ 4096) = true from decide_eq_true (by omega), Bool.and_true]
  · show rowB [kindB [9, 10, 0]] l = (decide ((1 : Int) ≤ (l.length : Int)) && decide ((l.length : Int) ≤ 1) && goB 7 0 l)
    by_cases hn : l.length = 1
    · match l, hn with
      | [a], _ => rfl
    · rw [rowB_len _ _ (by simpa using hn)]
      have e : (decide ((1 : Int) ≤ (l.length : Int)) && decide ((l.length : Int) ≤ 1)) = false := by
        rw [Bool.and_eq_false_iff, decide_eq_false_iff_not, decide_eq_false_iff_not]; omega
      rw [e]; rfl
  · show rowB [kindB [9, 10, 0]] l = (decide ((1 : Int) ≤ (l.length : Int)) && decide ((l.length : Int) ≤ 1) && goB 8 0 l)
    by_cases hn : l.length = 1
    · match l, hn with
      | [a], _ => rfl
    · rw [rowB_len _ _ (by simpa using hn)]
      have e : (decide ((1 : Int) ≤ (l.length : Int)) && decide ((l.length : Int) ≤ 1)) = false := by
        rw [Bool.and_eq_false_iff, decide_eq_false_iff_not, decide_eq_false_iff_not]; omega
      rw [e]; rfl
  · show rowB [] l = (decide ((0 : Int) ≤ (l.length : Int)) && decide ((l.length : Int) ≤ 0) && goB 9 0 l)
    by_cases hn : l.length = 0
    · have : l = [] := List.eq_nil_of_length_eq_zero hn
      subst this
      rfl
    · rw [rowB_len _ _ (by simpa using hn)]
      have e : (decide ((0 : Int) ≤ (l.length : Int)) && decide ((l.length : Int) ≤ 0)) = false := by
        rw [Bool.and_eq_false_iff, decide_eq_false_iff_not, decide_eq_false_iff_not]; omega
      rw [e]; rfl
  · show rowB [] l = (decide ((0 : Int) ≤ (l.length : Int)) && decide ((l.length : Int) ≤ 0) && goB 10 0 l)
    by_cases hn : l.length = 0
    · have : l = [] := List.eq_nil_of_length_eq_zero hn
      subst this
      rfl
    · rw [rowB_len _ _ (by simpa using hn)]
      have e : (decide ((0 : Int) ≤ (l.length : Int)) && decide ((l.length : Int) ≤ 0)) = false := by
        rw [Bool.and_eq_false_iff, decide_eq_false_iff_not, decide_eq_false_iff_not]; omega
      rw [e]; rfl
  · rw [goB_all (p := stmtB) (fun i => rfl)]
    show manyB 0 (stmtB) l = (decide ((0 : Int) ≤ (l.length : Int)) && decide ((l.length : Int) ≤ 4096) && l.all (stmtB))
    unfold manyB
    rw [show decide ((l.length : Int) ≤ 4096) = true from decide_eq_true (by omega), Bool.and_true]
  · show rowB [kindB [9, 10, 0], exprB] l = (decide ((2 : Int) ≤ (l.length : Int)) && decide ((l.length : Int) ≤ 2) && goB 12 0 l)
    by_cases hn : l.length = 2
    · match l, hn with
      | [a, b], _ => rfl
    · rw [rowB_len _ _ (by simpa using hn)]
      have e : (decide ((2 : Int) ≤ (l.length : Int)) && decide ((l.length : Int) ≤ 2)) = false := by
        rw [Bool.and_eq_false_iff, decide_eq_false_iff_not, decide_eq_false_iff_not]; omega
      rw [e]; rfl
  · show rowB [kindB [20, 21, 22], exprB] l = (decide ((2 : Int) ≤ (l.length : Int)) && decide ((l.length : Int) ≤ 2) && goB 13 0 l)
    by_cases hn : l.length = 2
    · match l, hn with
      | [a, b], _ => rfl
    · rw [rowB_len _ _ (by simpa using hn)]
      have e : (decide ((2 : Int) ≤ (l.length : Int)) && decide ((l.length : Int) ≤ 2)) = false := by
        rw [Bool.and_eq_false_iff, decide_eq_false_iff_not, decide_eq_false_iff_not]; omega
      rw [e]; rfl
  · show rowB [exprB, kindB [11], kindB [11, 14, 0]] l = (decide ((3 : Int) ≤ (l.length : Int)) && decide ((l.length : Int) ≤ 3) && goB 14 0 l)
    by_cases hn : l.length = 3
    · match l, hn with
      | [a, b, c], _ => rfl
    · rw [rowB_len _ _ (by simpa using hn)]
      have e : (decide ((3 : Int) ≤ (l.length : Int)) && decide ((l.length : Int) ≤ 3)) = false := by
        rw [Bool.and_eq_false_iff, decide_eq_false_iff_not, decide_eq_false_iff_not]; omega
      rw [e]; rfl
  · show rowB [exprB, kindB [11]] l = (decide ((2 : Int) ≤ (l.length : Int)) && decide ((l.length : Int) ≤ 2) && goB 15 0 l)
    by_cases hn : l.length = 2
    · match l, hn with
      | [a, b], _ => rfl
    · rw [rowB_len _ _ (by simpa using hn)]
      have e : (decide ((2 : Int) ≤ (l.length : Int)) && decide ((l.length : Int) ≤ 2)) = false := by
        rw [Bool.and_eq_false_iff, decide_eq_false_iff_not, decide_eq_false_iff_not]; omega
      rw [e]; rfl
  · show rowB [exprB, exprB, kindB [11]] l = (decide ((3 : Int) ≤ (l.length : Int)) && decide ((l.length : Int) ≤ 3) && goB 16 0 l)
    by_cases hn : l.length = 3
    · match l, hn with
      | [a, b, c], _ => rfl
    · rw [rowB_len _ _ (by simpa using hn)]
      have e : (decide ((3 : Int) ≤ (l.length : Int)) && decide ((l.length : Int) ≤ 3)) = false := by
        rw [Bool.and_eq_false_iff, decide_eq_false_iff_not, decide_eq_false_iff_not]; omega
      rw [e]; rfl
  · show rowB [retOkB] l = (decide ((1 : Int) ≤ (l.length : Int)) && decide ((l.length : Int) ≤ 1) && goB 17 0 l)
    by_cases hn : l.length = 1
    · match l, hn with
      | [a], _ => rfl
    · rw [rowB_len _ _ (by simpa using hn)]
      have e : (decide ((1 : Int) ≤ (l.length : Int)) && decide ((l.length : Int) ≤ 1)) = false := by
        rw [Bool.and_eq_false_iff, decide_eq_false_iff_not, decide_eq_false_iff_not]; omega
      rw [e]; rfl
  · show rowB [exprB] l = (decide ((1 : Int) ≤ (l.length : Int)) && decide ((l.length : Int) ≤ 1) && goB 18 0 l)
    by_cases hn : l.length = 1
    · match l, hn with
      | [a], _ => rfl
    · rw [rowB_len _ _ (by simpa using hn)]
      have e : (decide ((1 : Int) ≤ (l.length : Int)) && decide ((l.length : Int) ≤ 1)) = false := by
        rw [Bool.and_eq_false_iff, decide_eq_false_iff_not, decide_eq_false_iff_not]; omega
      rw [e]; rfl
  · rw [goB_all (p := exprB) (fun i => rfl)]
    show manyB 0 (exprB) l = (decide ((0 : Int) ≤ (l.length : Int)) && decide ((l.length : Int) ≤ 4096) && l.all (exprB))
    unfold manyB
    rw [show decide ((l.length : Int) ≤ 4096) = true from decide_eq_true (by omega), Bool.and_true]
  · show rowB [] l = (decide ((0 : Int) ≤ (l.length : Int)) && decide ((l.length : Int) ≤ 0) && goB 20 0 l)
    by_cases hn : l.length = 0
    · have : l = [] := List.eq_nil_of_length_eq_zero hn
      subst this
      rfl
    · rw [rowB_len _ _ (by simpa using hn)]
      have e : (decide ((0 : Int) ≤ (l.length : Int)) && decide ((l.length : Int) ≤ 0)) = false := by
        rw [Bool.and_eq_false_iff, decide_eq_false_iff_not, decide_eq_false_iff_not]; omega
      rw [e]; rfl
  · show rowB [kindB [20], exprB] l = (decide ((2 : Int) ≤ (l.length : Int)) && decide ((l.length : Int) ≤ 2) && goB 21 0 l)
    by_cases hn : l.length = 2
    · match l, hn with
      | [a, b], _ => rfl
    · rw [rowB_len _ _ (by simpa using hn)]
      have e : (decide ((2 : Int) ≤ (l.length : Int)) && decide ((l.length : Int) ≤ 2)) = false := by
        rw [Bool.and_eq_false_iff, decide_eq_false_iff_not, decide_eq_false_iff_not]; omega
      rw [e]; rfl
  · show rowB [kindB [20]] l = (decide ((1 : Int) ≤ (l.length : Int)) && decide ((l.length : Int) ≤ 1) && goB 22 0 l)
    by_cases hn : l.length = 1
    · match l, hn with
      | [a], _ => rfl
    · rw [rowB_len _ _ (by simpa using hn)]
      have e : (decide ((1 : Int) ≤ (l.length : Int)) && decide ((l.length : Int) ≤ 1)) = false := by
        rw [Bool.and_eq_false_iff, decide_eq_false_iff_not, decide_eq_false_iff_not]; omega
      rw [e]; rfl
  · show rowB [kindB [20]] l = (decide ((1 : Int) ≤ (l.length : Int)) && decide ((l.length : Int) ≤ 1) && goB 23 0 l)
    by_cases hn : l.length = 1
    · match l, hn with
      | [a], _ => rfl
    · rw [rowB_len _ _ (by simpa using hn)]
      have e : (decide ((1 : Int) ≤ (l.length : Int)) && decide ((l.length : Int) ≤ 1)) = false := by
        rw [Bool.and_eq_false_iff, decide_eq_false_iff_not, decide_eq_false_iff_not]; omega
      rw [e]; rfl
  · show rowB [] l = (decide ((0 : Int) ≤ (l.length : Int)) && decide ((l.length : Int) ≤ 0) && goB 24 0 l)
    by_cases hn : l.length = 0
    · have : l = [] := List.eq_nil_of_length_eq_zero hn
      subst this
      rfl
    · rw [rowB_len _ _ (by simpa using hn)]
      have e : (decide ((0 : Int) ≤ (l.length : Int)) && decide ((l.length : Int) ≤ 0)) = false := by
        rw [Bool.and_eq_false_iff, decide_eq_false_iff_not, decide_eq_false_iff_not]; omega
      rw [e]; rfl
  · show rowB [] l = (decide ((0 : Int) ≤ (l.length : Int)) && decide ((l.length : Int) ≤ 0) && goB 25 0 l)
    by_cases hn : l.length = 0
    · have : l = [] := List.eq_nil_of_length_eq_zero hn
      subst this
      rfl
    · rw [rowB_len _ _ (by simpa using hn)]
      have e : (decide ((0 : Int) ≤ (l.length : Int)) && decide ((l.length : Int) ≤ 0)) = false := by
        rw [Bool.and_eq_false_iff, decide_eq_false_iff_not, decide_eq_false_iff_not]; omega
      rw [e]; rfl
  · rw [goB_all (p := exprB) (fun i => rfl)]
    show manyB 1 (exprB) l = (decide ((1 : Int) ≤ (l.length : Int)) && decide ((l.length : Int) ≤ 4096) && l.all (exprB))
    unfold manyB
    rw [show decide ((l.length : Int) ≤ 4096) = true from decide_eq_true (by omega), Bool.and_true]
  · rw [goB_all (p := exprB) (fun i => rfl)]
    show manyB 0 (exprB) l = (decide ((0 : Int) ≤ (l.length : Int)) && decide ((l.length : Int) ≤ 4096) && l.all (exprB))
    unfold manyB
    rw [show decide ((l.length : Int) ≤ 4096) = true from decide_eq_true (by omega), Bool.and_true]
  · show rowB [exprB] l = (decide ((1 : Int) ≤ (l.length : Int)) && decide ((l.length : Int) ≤ 1) && goB 28 0 l)
    by_cases hn : l.length = 1
    · match l, hn with
      | [a], _ => rfl
    · rw [rowB_len _ _ (by simpa using hn)]
      have e : (decide ((1 : Int) ≤ (l.length : Int)) && decide ((l.length : Int) ≤ 1)) = false := by
        rw [Bool.and_eq_false_iff, decide_eq_false_iff_not, decide_eq_false_iff_not]; omega
      rw [e]; rfl
  · show rowB [exprB, exprB] l = (decide ((2 : Int) ≤ (l.length : Int)) && decide ((l.length : Int) ≤ 2) && goB 29 0 l)
    by_cases hn : l.length = 2
    · match l, hn with
      | [a, b], _ => rfl
    · rw [rowB_len _ _ (by simpa using hn)]
      have e : (decide ((2 : Int) ≤ (l.length : Int)) && decide ((l.length : Int) ≤ 2)) = false := by
        rw [Bool.and_eq_false_iff, decide_eq_false_iff_not, decide_eq_false_iff_not]; omega
      rw [e]; rfl
set_option maxRecDepth 100000 in
theorem r_kid_any {k : Int} (h : kindOk k = true) (i : Nat) (hi : (i : Int) < hiK k) : KidC k (i : Int) (clsAt k i) := by
  rcases kinds29 h with rfl | rfl | rfl | rfl | rfl | rfl | rfl | rfl | rfl | rfl | rfl | rfl | rfl | rfl | rfl | rfl | rfl | rfl | rfl | rfl | rfl | rfl | rfl | rfl | rfl | rfl | rfl | rfl | rfl
  · have hi' : (i : Int) < 0 := hi
    omega
  · exact kid_2 i
  · exact kid_3 i
  · have hi' : (i : Int) < 1 := hi
    match i, hi' with
    | 0, _ => exact kid_4_0
    | i + 1, h' => omega
  · have hi' : (i : Int) < 3 := hi
    match i, hi' with
    | 0, _ => exact kid_5_0
    | 1, _ => exact kid_5_1
    | 2, _ => exact kid_5_2
    | i + 3, h' => omega
  · exact kid_6 i
  · have hi' : (i : Int) < 1 := hi
    match i, hi' with
    | 0, _ => exact kid_7_0
    | i + 1, h' => omega
  · have hi' : (i : Int) < 1 := hi
    match i, hi' with
    | 0, _ => exact kid_8_0
    | i + 1, h' => omega
  · have hi' : (i : Int) < 0 := hi
    omega
  · have hi' : (i : Int) < 0 := hi
    omega
  · exact kid_11 i
  · have hi' : (i : Int) < 2 := hi
    match i, hi' with
    | 0, _ => exact kid_12_0
    | 1, _ => exact kid_12_1
    | i + 2, h' => omega
  · have hi' : (i : Int) < 2 := hi
    match i, hi' with
    | 0, _ => exact kid_13_0
    | 1, _ => exact kid_13_1
    | i + 2, h' => omega
  · have hi' : (i : Int) < 3 := hi
    match i, hi' with
    | 0, _ => exact kid_14_0
    | 1, _ => exact kid_14_1
    | 2, _ => exact kid_14_2
    | i + 3, h' => omega
  · have hi' : (i : Int) < 2 := hi
    match i, hi' with
    | 0, _ => exact kid_15_0
    | 1, _ => exact kid_15_1
    | i + 2, h' => omega
  · have hi' : (i : Int) < 3 := hi
    match i, hi' with
    | 0, _ => exact kid_16_0
    | 1, _ => exact kid_16_1
    | 2, _ => exact kid_16_2
    | i + 3, h' => omega
  · have hi' : (i : Int) < 1 := hi
    match i, hi' with
    | 0, _ => exact kid_17_0
    | i + 1, h' => omega
  · have hi' : (i : Int) < 1 := hi
    match i, hi' with
    | 0, _ => exact kid_18_0
    | i + 1, h' => omega
  · exact kid_19 i
  · have hi' : (i : Int) < 0 := hi
    omega
  · have hi' : (i : Int) < 2 := hi
    match i, hi' with
    | 0, _ => exact kid_21_0
    | 1, _ => exact kid_21_1
    | i + 2, h' => omega
  · have hi' : (i : Int) < 1 := hi
    match i, hi' with
    | 0, _ => exact kid_22_0
    | i + 1, h' => omega
  · have hi' : (i : Int) < 1 := hi
    match i, hi' with
    | 0, _ => exact kid_23_0
    | i + 1, h' => omega
  · have hi' : (i : Int) < 0 := hi
    omega
  · have hi' : (i : Int) < 0 := hi
    omega
  · exact kid_26 i
  · exact kid_27 i
  · have hi' : (i : Int) < 1 := hi
    match i, hi' with
    | 0, _ => exact kid_28_0
    | i + 1, h' => omega
  · have hi' : (i : Int) < 2 := hi
    match i, hi' with
    | 0, _ => exact kid_29_0
    | 1, _ => exact kid_29_1
    | i + 2, h' => omega
end Go.Proofs.YtlpoeflbnpbmgaaGreatDoor
