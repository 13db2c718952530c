/- What is proved: the example's array type is written as the chapter says; the example's records; the field of the example. -/
import Derived.Test.YtlpoeflbnpbmgaaGreatDoorTySame2
set_option linter.unusedVariables false
namespace Go.Proofs.YtlpoeflbnpbmgaaGreatDoor
open Go.RowKit

theorem small2 (w : World) : Calls Tryz.prog 77 #[.int .i64 2] w fun e w' => e = .returned (.string ⟨#[50]⟩) ∧ w = w' := by
  go_enter Tryz.func77, Tryz.ntmps77
  go_wp2_with (fail)
  go_ret
  exact ⟨rfl, rfl⟩
theorem formatInt2 (w : World) : Calls Tryz.prog 55 #[.int .i64 2, .int .i64 10] w fun e w' => e = .returned (.string ⟨#[50]⟩) ∧ w = w' := by
  go_enter Tryz.func55, Tryz.ntmps55
  go_wp2_with (fail)
  refine (small2 w).mono ?_
  rintro e w' ⟨rfl, rfl⟩
  go_wp2_with (fail)
  go_ret
  exact ⟨rfl, rfl⟩
theorem itoaIn2 (w : World) : Calls Tryz.prog 42 #[.int .i64 2] w fun e w' => e = .returned (.string ⟨#[50]⟩) ∧ w = w' := by
  go_enter Tryz.func42, Tryz.ntmps42
  go_wp2_with (fail)
  refine (formatInt2 w).mono ?_
  rintro e w' ⟨rfl, rfl⟩
  go_wp2_with (fail)
  go_ret
  exact ⟨rfl, rfl⟩
theorem itoa2 (w : World) : Calls Tryz.prog 29 #[.int .i64 2] w fun e w' => e = .returned (.string ⟨#[50]⟩) ∧ w = w' := by
  go_enter Tryz.func29, Tryz.ntmps29
  go_wp2_with (fail)
  refine (itoaIn2 w).mono ?_
  rintro e w' ⟨rfl, rfl⟩
  go_wp2_with (fail)
  go_ret
  exact ⟨rfl, rfl⟩
theorem format2 (w : World) : Calls Tryz.prog 18 #[.agg #[.int .i64 3, .int .i64 2, .string ⟨#[]⟩]] w fun e w' => e = .returned (.string ⟨#[105, 110, 116, 91, 50, 93]⟩) ∧ Below w.heap.size w w' := by
  go_enter Tryz.func18, Tryz.ntmps18
  go_wp2_with (fail)
  have hb := (Below.refl w.heap.size w).alloc (Nat.le_refl _) (.cells #[.int .i64 3, .int .i64 2, .string ⟨#[]⟩] 31)
  generalize (w.alloc (.cells #[.int .i64 3, .int .i64 2, .string ⟨#[]⟩] 31)) = w0 at *
  refine (itoa2 w0).mono ?_
  rintro e w' ⟨rfl, rfl⟩
  go_wp2_with (fail)
  go_ret
  exact ⟨rfl, hb⟩

/-- the example's records -/
def ptF : List FldV := [⟨⟨#[112, 120]⟩, bsc 1⟩, ⟨⟨#[112, 98]⟩, bsc 2⟩]
def ptR (b : Nat) : List RcV := [⟨⟨#[112, 111, 105, 110, 116]⟩, some ⟨b, 0, none⟩, 2, ptF⟩]
theorem point_any (w : World) : Calls Tryz.prog 14 #[] w fun e w' => ∃ b g, e = .returned (.slice (some ⟨g, 0, none⟩) 1 1) ∧ RRow w'.heap.size w' (some ⟨g, 0, none⟩) (ptR b) ∧ Below w.heap.size w w' := by
  go_enter Tryz.func14, Tryz.ntmps14
  go_wp2_with (fail)
  go_ret
  have hb0 := (Below.refl w.heap.size w).alloc (Nat.le_refl _) (.cells #[.string ⟨#[112, 120]⟩, .int .i64 1, .int .i64 0, .string ⟨#[]⟩, .string ⟨#[112, 98]⟩, .int .i64 2, .int .i64 0, .string ⟨#[]⟩] 58)
  have hn0 := heap_alloc_new w (.cells #[.string ⟨#[112, 120]⟩, .int .i64 1, .int .i64 0, .string ⟨#[]⟩, .string ⟨#[112, 98]⟩, .int .i64 2, .int .i64 0, .string ⟨#[]⟩] 58)
  have hz0 := World.size_alloc w (.cells #[.string ⟨#[112, 120]⟩, .int .i64 1, .int .i64 0, .string ⟨#[]⟩, .string ⟨#[112, 98]⟩, .int .i64 2, .int .i64 0, .string ⟨#[]⟩] 58)
  generalize (w.alloc (.cells #[.string ⟨#[112, 120]⟩, .int .i64 1, .int .i64 0, .string ⟨#[]⟩, .string ⟨#[112, 98]⟩, .int .i64 2, .int .i64 0, .string ⟨#[]⟩] 58)) = w0 at *
  have hb1 := hb0.alloc (by omega) (.cells #[.string ⟨#[112, 111, 105, 110, 116]⟩, .slice (some ⟨w.heap.size, 0, none⟩) 2 2] 39)
  have hn1 := heap_alloc_new w0 (.cells #[.string ⟨#[112, 111, 105, 110, 116]⟩, .slice (some ⟨w.heap.size, 0, none⟩) 2 2] 39)
  have hn2 := (heap_alloc_old w0 (.cells #[.string ⟨#[112, 111, 105, 110, 116]⟩, .slice (some ⟨w.heap.size, 0, none⟩) 2 2] 39) (by omega)).trans hn0
  have hz1 := World.size_alloc w0 (.cells #[.string ⟨#[112, 111, 105, 110, 116]⟩, .slice (some ⟨w.heap.size, 0, none⟩) 2 2] 39)
  rw [hz0] at hn1
  refine ⟨w.heap.size, w.heap.size + 1, rfl, fun _ => ⟨w.heap.size + 1, 0, rfl, by omega, fun i hi => ?_⟩, hb1⟩
  match i, hi with
  | 0, _ =>
    refine ⟨Lib.cell_of_heap hn1 0, Lib.cell_of_heap hn1 1, fun _ => ⟨w.heap.size, 0, rfl, by omega, fun j hj => ?_⟩, show (2 : Nat) ≤ 1000000000 by decide⟩
    match j, hj with
    | 0, _ => exact ⟨Lib.cell_of_heap hn2 0, Lib.cell_of_heap hn2 1, Lib.cell_of_heap hn2 2, Lib.cell_of_heap hn2 3⟩
    | 1, _ => exact ⟨Lib.cell_of_heap hn2 4, Lib.cell_of_heap hn2 5, Lib.cell_of_heap hn2 6, Lib.cell_of_heap hn2 7⟩
end Go.Proofs.YtlpoeflbnpbmgaaGreatDoor
