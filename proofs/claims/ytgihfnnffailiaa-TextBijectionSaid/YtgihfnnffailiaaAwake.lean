/- What is proved: the chapter's examples hold: awake answers true. -/
import Derived.Test.YtgihfnnffailiaaApply
import Derived.Test.YtgihfnnffailiaaPos
import Derived.Test.YtgihfnnffailiaaDiff
import Derived.Test.YtgihfnnffailiaaInts
set_option linter.unusedVariables false
namespace Go.Proofs.Ytgihfnnffailiaa
open Go.RowKit

def exR : List Rep := [⟨1, 2, ⟨#[120, 121]⟩⟩, ⟨3, 3, ⟨#[122]⟩⟩]
def exS : ByteArray := ⟨#[97, 98, 10, 99, 100]⟩

theorem ex_pos : posAt exS.data.toList 4 = (2, 2) := by decide +kernel
theorem ex_lines : lnsTo exS.data.toList exS.size = [0, 3] := by decide +kernel
theorem ex_chk : chk exS.size exR 0 exS.size = 0 := by decide +kernel
theorem ex_app : app exS.data.toList 0 exR = [97, 120, 121, 10, 122, 99, 100] := by decide +kernel
theorem ex_mv : mv exR 3 = 5 := by decide +kernel
theorem ex_diff : diffVal ⟨#[97, 98, 99]⟩ ⟨#[97, 88, 99]⟩ = .agg #[.int .i64 1, .int .i64 2, .string ⟨#[88]⟩] := by kernel_rfl

theorem ex_short : Short exR := by
  intro i hi
  match i, hi with
  | 0, _ => exact (show (2 : Nat) ≤ 1000000 by omega)
  | 1, _ => exact (show (1 : Nat) ≤ 1000000 by omega)

def exO : Obj := .cells #[.int .i64 1, .int .i64 2, .string ⟨#[120, 121]⟩, .int .i64 3, .int .i64 3, .string ⟨#[122]⟩] 45
theorem ex_reps (w : World) : Reps (w.alloc exO) w.heap.size 0 exR := by
  intro i hi
  have h := heap_new1 w exO
  unfold exO at h
  match i, hi with
  | 0, _ => exact ⟨Lib.cell_of_heap h 0, Lib.cell_of_heap h 1, Lib.cell_of_heap h 2⟩
  | 1, _ => exact ⟨Lib.cell_of_heap h 3, Lib.cell_of_heap h 4, Lib.cell_of_heap h 5⟩

set_option maxHeartbeats 1000000 in
theorem awake_any (w : World) : Calls Try.prog 9 #[] w fun e w' => e = .returned (.bool true) ∧ Below w.heap.size w w' := by
  have HP := hide (fun w1 => position_any exS 4 w1 (by decide))
  rw [ex_pos] at HP
  go_enter Try.func9, Try.ntmps9
  go_wp2_with (fail)
  refine ((unhide HP) _).mono ?_
  rintro e w1 ⟨rfl, rfl⟩
  go_wp2_with (fail)
  have HR := hide (ex_reps w)
  have HB := hide ((Below.refl w.heap.size w).alloc (Nat.le_refl _) exO)
  have HA := hide (fun w1 h1 => apply_good exS (some ⟨w.heap.size, 0, none⟩) 2 exR w1 (by decide) (by decide) ex_short h1 ex_chk)
  refine ((unhide HA) _ (RepsA.of (by simp) (unhide HR))).mono ?_
  rintro e w1 ⟨rfl, hb1⟩
  have z1 := hb1.size
  simp only [World.size_alloc] at z1
  have HR1 := hide ((unhide HR).below hb1 (by simp))
  have HB1 := hide ((unhide HB).trans (hb1.mono (by simp)))
  clear hb1
  rw [ex_app]
  go_wp2_with (fail)
  have HL := hide (lines_any exS w1 (by decide))
  rw [ex_lines] at HL
  refine (unhide HL).mono ?_
  rintro e w2 ⟨v, rfl, ho2, hb2⟩
  have z2 := hb2.size
  have HO2 := hide ho2
  have HR2 := hide ((unhide HR1).below (hb2.mono (Nat.le_refl _)) (by omega))
  have HB2 := hide ((unhide HB1).trans (hb2.mono (by omega)))
  clear ho2 hb2
  go_wp2_with (fail)
  have hown2 : (w2.alloc (.cells #[.int .i64 0, .int .i64 3] 3)).ownsRow w2.heap.size 3 1 (.slice (some ⟨w2.heap.size, 0, none⟩) 2 2) 2 (ints [0, 3]) :=
    ⟨rfl, .inr ⟨_, _, _, rfl, Nat.le_refl _, heap_alloc_new w2 _, Nat.le_refl _, by unfold maxLen; omega, rfl, rfl⟩⟩
  have HI := hide (ints_own w1.heap.size w2.heap.size 3 3 v _ [0, 3] _ (by decide) (by decide) ((unhide HO2).alloc (.cells #[.int .i64 0, .int .i64 3] 3)) hown2)
  clear hown2
  refine (unhide HI).mono ?_
  rintro e w3 ⟨rfl, n3, rfl⟩
  have HR3 := hide ((unhide HR2).below (below_drewN ((Below.refl w2.heap.size w2).alloc (Nat.le_refl _) (.cells #[.int .i64 0, .int .i64 3] 3)) n3) (by omega))
  have HB3 := hide (below_drewN ((unhide HB2).alloc (by omega) (.cells #[.int .i64 0, .int .i64 3] 3)) n3)
  go_wp2_with (fail)
  have HM := hide (fun w4 h1 => move_any (some ⟨w.heap.size, 0, none⟩) 2 exR 3 w4 (by decide) ex_short h1)
  rw [ex_mv] at HM
  refine ((unhide HM) _ (RepsA.of (by simp; omega) (unhide HR3))).mono ?_
  rintro e w4 ⟨rfl, hb4⟩
  have z4 := hb4.size
  simp at z4
  have HB4 := hide ((unhide HB3).trans (hb4.mono (by simp; omega)))
  clear hb4
  go_wp2_with (fail)
  have HD := hide (difference_any ⟨#[97, 98, 99]⟩ ⟨#[97, 88, 99]⟩ w4 (by decide) (by decide))
  rw [ex_diff] at HD
  refine (unhide HD).mono ?_
  rintro e w5 ⟨rfl, hb5⟩
  have z5 := hb5.size
  have HB5 := hide ((unhide HB4).trans (hb5.mono (by omega)))
  clear hb5
  go_wp2_with (fail)
  go_ret
  exact ⟨rfl, unhide HB5⟩
end Go.Proofs.Ytgihfnnffailiaa
