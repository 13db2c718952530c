/- What is proved: Binary of value answers what the plain function says. -/
import Derived.Test.YtlndlipicbkhiaaDoorVaTab
import Derived.Shelf.Abstract
set_option linter.unusedVariables false
namespace Go.Proofs.YtlndlipicbkhiaaDoor
open Go.RowKit Go.Shelf

theorem truth_any (b : Bool) (w : World) : Calls Tryd.prog 45 #[.bool b] w fun e w' => e = .returned (.int .i64 (bt b)) ∧ w' = w := by
  cases b with
  | true =>
    go_enter Tryd.func45, Tryd.ntmps45
    go_wp2_with (fail)
    go_ret
    exact ⟨rfl, rfl⟩
  | false =>
    go_enter Tryd.func45, Tryd.ntmps45
    go_wp2_with (fail)
    go_ret
    exact ⟨rfl, rfl⟩

/-- a function that computes an operator -/
structure Opf (g k : Nat) : Prop where
  ent : ∀ args w, (callFunc g args).run Tryd.prog w = .ok (.enter g args) w
  run : ∀ (a b : Int) (w : World), (-128 ≤ a ∧ a ≤ 127) → (-128 ≤ b ∧ b ≤ 127) → Calls Tryd.prog g #[.int .i64 a, .int .i64 b] w fun e w' => e = .returned (.tuple #[.int .i64 (rawP k a b).1, .int .i64 (rawP k a b).2]) ∧ w' = w

theorem opf0 : Opf 39 0 := ⟨enters_of Tryd.func39 (by kernel_rfl) rfl, fun a b w ha hb => by
  have h1 : IntKind.i64.wrap (a + b) = a + b := by simp [IntKind.wrap, IntKind.bits, IntKind.signed]; omega
  go_enter Tryd.func39, Tryd.ntmps39
  go_wp2_with (fail)
  go_ret2
  exact ⟨rfl, rfl⟩⟩

theorem opf1 : Opf 40 1 := ⟨enters_of Tryd.func40 (by kernel_rfl) rfl, fun a b w ha hb => by
  have h1 : IntKind.i64.wrap (a - b) = a - b := by simp [IntKind.wrap, IntKind.bits, IntKind.signed]; omega
  go_enter Tryd.func40, Tryd.ntmps40
  go_wp2_with (fail)
  go_ret2
  exact ⟨rfl, rfl⟩⟩

theorem opf2 : Opf 41 2 := ⟨enters_of Tryd.func41 (by kernel_rfl) rfl, fun a b w ha hb => by
  have h0 := raw_bound 2 a b ha hb
  have h0' : -20000 ≤ a * b ∧ a * b ≤ 20000 := h0
  have h1 : IntKind.i64.wrap (a * b) = a * b := by simp [IntKind.wrap, IntKind.bits, IntKind.signed]; omega
  clear h0 h0'
  go_enter Tryd.func41, Tryd.ntmps41
  go_wp2_with (fail)
  go_ret2
  exact ⟨rfl, rfl⟩⟩

theorem opf3 : Opf 42 3 := ⟨enters_of Tryd.func42 (by kernel_rfl) rfl, fun a b w ha hb => by
  by_cases h : b = 0
  · subst h
    go_enter Tryd.func42, Tryd.ntmps42
    go_wp2_with (fail)
    go_ret2
    exact ⟨rfl, rfl⟩
  · have h1 : (b == 0) = false := by simpa using h
    have hr : rawP 3 a b = (a.tdiv b, 0) := by unfold rawP; simp only []; rw [if_neg h]
    have h0 := raw_bound 3 a b ha hb
    rw [hr] at h0 ⊢
    have h2 : IntKind.i64.wrap (a.tdiv b) = a.tdiv b := by simp only [] at h0; simp [IntKind.wrap, IntKind.bits, IntKind.signed]; omega
    clear h0 hr
    go_enter Tryd.func42, Tryd.ntmps42
    go_wp2_with (fail)
    go_ret2
    exact ⟨rfl, rfl⟩⟩

theorem opf4 : Opf 43 4 := ⟨enters_of Tryd.func43 (by kernel_rfl) rfl, fun a b w ha hb => by
  by_cases h : b = 0
  · subst h
    go_enter Tryd.func43, Tryd.ntmps43
    go_wp2_with (fail)
    go_ret2
    exact ⟨rfl, rfl⟩
  · have h1 : (b == 0) = false := by simpa using h
    have hr : rawP 4 a b = (a.tmod b, 0) := by unfold rawP; simp only []; rw [if_neg h]
    have h0 := raw_bound 4 a b ha hb
    rw [hr] at h0 ⊢
    have h2 : IntKind.i64.wrap (a.tmod b) = a.tmod b := by simp only [] at h0; simp [IntKind.wrap, IntKind.bits, IntKind.signed]; omega
    clear h0 hr
    go_enter Tryd.func43, Tryd.ntmps43
    go_wp2_with (fail)
    go_ret2
    exact ⟨rfl, rfl⟩⟩

theorem opf5 : Opf 44 5 := ⟨enters_of Tryd.func44 (by kernel_rfl) rfl, fun a b w ha hb => by
  have HT := Lib.hid (fun x => truth_any x w)
  go_enter Tryd.func44, Tryd.ntmps44
  go_wp2_with (fail)
  refine (HT.out (a == b)).mono ?_
  rintro e w1 ⟨rfl, rfl⟩
  go_wp2_with (fail)
  go_ret2
  exact ⟨rfl, rfl⟩⟩

theorem opf6 : Opf 46 6 := ⟨enters_of Tryd.func46 (by kernel_rfl) rfl, fun a b w ha hb => by
  have HT := Lib.hid (fun x => truth_any x w)
  go_enter Tryd.func46, Tryd.ntmps46
  go_wp2_with (fail)
  refine (HT.out (a != b)).mono ?_
  rintro e w1 ⟨rfl, rfl⟩
  go_wp2_with (fail)
  go_ret2
  exact ⟨rfl, rfl⟩⟩

theorem opf7 : Opf 47 7 := ⟨enters_of Tryd.func47 (by kernel_rfl) rfl, fun a b w ha hb => by
  have HT := Lib.hid (fun x => truth_any x w)
  go_enter Tryd.func47, Tryd.ntmps47
  go_wp2_with (fail)
  refine (HT.out (decide (a < b))).mono ?_
  rintro e w1 ⟨rfl, rfl⟩
  go_wp2_with (fail)
  go_ret2
  exact ⟨rfl, rfl⟩⟩

theorem opf8 : Opf 48 8 := ⟨enters_of Tryd.func48 (by kernel_rfl) rfl, fun a b w ha hb => by
  have HT := Lib.hid (fun x => truth_any x w)
  go_enter Tryd.func48, Tryd.ntmps48
  go_wp2_with (fail)
  refine (HT.out (decide (a ≤ b))).mono ?_
  rintro e w1 ⟨rfl, rfl⟩
  go_wp2_with (fail)
  go_ret2
  exact ⟨rfl, rfl⟩⟩

theorem opf9 : Opf 49 9 := ⟨enters_of Tryd.func49 (by kernel_rfl) rfl, fun a b w ha hb => by
  have HT := Lib.hid (fun x => truth_any x w)
  go_enter Tryd.func49, Tryd.ntmps49
  go_wp2_with (fail)
  refine (HT.out (decide (b < a))).mono ?_
  rintro e w1 ⟨rfl, rfl⟩
  go_wp2_with (fail)
  go_ret2
  exact ⟨rfl, rfl⟩⟩

theorem opf10 : Opf 50 10 := ⟨enters_of Tryd.func50 (by kernel_rfl) rfl, fun a b w ha hb => by
  have HT := Lib.hid (fun x => truth_any x w)
  go_enter Tryd.func50, Tryd.ntmps50
  go_wp2_with (fail)
  refine (HT.out (decide (b ≤ a))).mono ?_
  rintro e w1 ⟨rfl, rfl⟩
  go_wp2_with (fail)
  go_ret2
  exact ⟨rfl, rfl⟩⟩

theorem opf11 : Opf 51 11 := ⟨enters_of Tryd.func51 (by kernel_rfl) rfl, fun a b w ha hb => by
  go_enter Tryd.func51, Tryd.ntmps51
  go_wp2_with (fail)
  all_goals
    go_ret2
    refine ⟨?_, rfl⟩
    change _ = Ending.returned (.tuple #[.int .i64 (min a b), .int .i64 0])
    first
      | (rw [show min a b = b by omega]; rfl)
      | (rw [show min a b = a by omega]; rfl)⟩

theorem opf12 : Opf 52 12 := ⟨enters_of Tryd.func52 (by kernel_rfl) rfl, fun a b w ha hb => by
  go_enter Tryd.func52, Tryd.ntmps52
  go_wp2_with (fail)
  all_goals
    go_ret2
    refine ⟨?_, rfl⟩
    change _ = Ending.returned (.tuple #[.int .i64 (max a b), .int .i64 0])
    first
      | (rw [show max a b = b by omega]; rfl)
      | (rw [show max a b = a by omega]; rfl)⟩
end Go.Proofs.YtlndlipicbkhiaaDoor
