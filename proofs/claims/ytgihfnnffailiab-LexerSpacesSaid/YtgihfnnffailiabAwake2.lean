/- What is proved: the chapter's examples hold. -/
import Derived.Test.YtgihfnnffailiabSpace
set_option linter.unusedVariables false
namespace Go.Proofs.Ytgihfnnffailiab
open Go.RowKit

theorem ex1 : scan [120, 61, 45, 49, 32, 35, 32, 97] = [⟨0, 0, 0, 1⟩, ⟨3, 1, 1, 2⟩, ⟨3, 2, 2, 3⟩, ⟨2, 3, 3, 4⟩, ⟨5, 4, 8, 8⟩] := by decide
theorem ex2 : scan [97, 36, 36, 98] = [⟨0, 0, 0, 1⟩, ⟨4, 1, 1, 3⟩, ⟨0, 3, 3, 4⟩, ⟨5, 4, 4, 4⟩] := by decide
theorem ex3 : words ⟨#[97, 36, 36, 98]⟩ [⟨0, 0, 0, 1⟩, ⟨4, 1, 1, 3⟩, ⟨0, 3, 3, 4⟩, ⟨5, 4, 4, 4⟩] = [⟨#[97]⟩, ⟨#[36, 36]⟩, ⟨#[98]⟩, ⟨#[]⟩] := by decide
theorem ex4 : spaceS ⟨#[120]⟩ ⟨#[61]⟩ = ⟨#[]⟩ := by decide
theorem ex5 : spaceS ⟨#[61]⟩ ⟨#[61]⟩ = ⟨#[32]⟩ := by decide
theorem ex6 : spaceS ⟨#[120]⟩ ⟨#[49]⟩ = ⟨#[32]⟩ := by decide

theorem awake_scan1 (w : World) : Calls Try.prog 10 #[.string ⟨#[120, 61, 45, 49, 32, 35, 32, 97]⟩] w fun e w' => ∃ b off c, e = .returned (.tuple #[.slice (some ⟨b, off, none⟩) 5 c, .int .i64 0]) ∧ b < w'.heap.size ∧ Toks w' b off [⟨0, 0, 0, 1⟩, ⟨3, 1, 1, 2⟩, ⟨3, 2, 2, 3⟩, ⟨2, 3, 3, 4⟩, ⟨5, 4, 8, 8⟩] ∧ Below w.heap.size w w' := by
  have h := scan_any ⟨#[120, 61, 45, 49, 32, 35, 32, 97]⟩ w (by decide)
  have e : scan (⟨#[120, 61, 45, 49, 32, 35, 32, 97]⟩ : ByteArray).data.toList = [⟨0, 0, 0, 1⟩, ⟨3, 1, 1, 2⟩, ⟨3, 2, 2, 3⟩, ⟨2, 3, 3, 4⟩, ⟨5, 4, 8, 8⟩] := ex1
  rw [e] at h
  refine h.mono fun e w' he => ?_
  obtain ⟨A, c, h1, h2, h3⟩ := he
  obtain ⟨b, off, rfl, hb, ht⟩ := h2 (by decide)
  exact ⟨b, off, c, h1, hb, ht, h3⟩
theorem awake_scan2 (w : World) : Calls Try.prog 10 #[.string ⟨#[97, 36, 36, 98]⟩] w fun e w' => ∃ A c, e = .returned (.tuple #[.slice A 4 c, .int .i64 0]) ∧ TokA w' A [⟨0, 0, 0, 1⟩, ⟨4, 1, 1, 3⟩, ⟨0, 3, 3, 4⟩, ⟨5, 4, 4, 4⟩] ∧ Below w.heap.size w w' := by
  have h := scan_any ⟨#[97, 36, 36, 98]⟩ w (by decide)
  have e : scan (⟨#[97, 36, 36, 98]⟩ : ByteArray).data.toList = [⟨0, 0, 0, 1⟩, ⟨4, 1, 1, 3⟩, ⟨0, 3, 3, 4⟩, ⟨5, 4, 4, 4⟩] := ex2
  rw [e] at h
  exact h
theorem awake_words (A : Option Addr) (c : Nat) (w : World) (h : TokA w A [⟨0, 0, 0, 1⟩, ⟨4, 1, 1, 3⟩, ⟨0, 3, 3, 4⟩, ⟨5, 4, 4, 4⟩]) : Calls Try.prog 16 #[.string ⟨#[97, 36, 36, 98]⟩, .slice A 4 c] w fun e w' => ∃ A' c', e = .returned (.slice A' 4 c') ∧ StrA w' A' [⟨#[97]⟩, ⟨#[36, 36]⟩, ⟨#[98]⟩, ⟨#[]⟩] ∧ Below w.heap.size w w' := by
  have h := words_any ⟨#[97, 36, 36, 98]⟩ A c _ w (by decide) (by decide) h
  rw [ex3] at h
  exact h
theorem awake_lit (w : World) : StrA (w.alloc (.cells #[.string ⟨#[97]⟩, .string ⟨#[36, 36]⟩, .string ⟨#[98]⟩, .string ⟨#[]⟩] 9)) (some ⟨w.heap.size, 0, none⟩) [⟨#[97]⟩, ⟨#[36, 36]⟩, ⟨#[98]⟩, ⟨#[]⟩] := by
  intro _
  refine ⟨w.heap.size, 0, rfl, by simp, ?_⟩
  have h := heap_new1 w (.cells #[.string ⟨#[97]⟩, .string ⟨#[36, 36]⟩, .string ⟨#[98]⟩, .string ⟨#[]⟩] 9)
  intro i hi
  match i, hi with
  | 0, _ => exact Lib.cell_of_heap h 0
  | 1, _ => exact Lib.cell_of_heap h 1
  | 2, _ => exact Lib.cell_of_heap h 2
  | 3, _ => exact Lib.cell_of_heap h 3

set_option maxHeartbeats 1000000 in
theorem awake_any (w : World) : Calls Try.prog 9 #[] w fun e w' => e = .returned (.bool true) ∧ Below w.heap.size w w' := by
  have H4 := Lib.hid (fun w => space_any ⟨#[120]⟩ ⟨#[61]⟩ w (by decide) (by decide))
  have H5 := Lib.hid (fun w => space_any ⟨#[61]⟩ ⟨#[61]⟩ w (by decide) (by decide))
  have H6 := Lib.hid (fun w => space_any ⟨#[120]⟩ ⟨#[49]⟩ w (by decide) (by decide))
  rw [ex4] at H4
  rw [ex5] at H5
  rw [ex6] at H6
  go_enter Try.func9, Try.ntmps9
  go_wp2_with (fail)
  refine (awake_scan1 w).mono ?_
  rintro e w1 ⟨b, off, c, rfl, hb, ht, hb1⟩
  have z1 := hb1.size
  have HT := Lib.hid ht
  have B1 := Lib.hid hb1
  clear ht hb1
  go_wp2_with (fail)
  refine (awake_scan2 w1).mono ?_
  rintro e w2 ⟨A, c2, rfl, hm, hb2⟩
  have z2 := hb2.size
  have HT2 := Lib.hid (HT.out.below hb2 hb)
  have B2 := Lib.hid (B1.out.trans (hb2.mono z1))
  have HM := Lib.hid hm
  clear hb2 hm
  obtain ⟨x0, x1, x2, x3⟩ := HT2.out 3 (by decide)
  obtain ⟨y0, y1, y2, y3⟩ := HT2.out 4 (by decide)
  simp only [List.getElem_cons_succ, List.getElem_cons_zero] at x0 x1 x2 x3 y0 y1 y2 y3
  go_wp2_with (fail)
  refine (awake_words A c2 w2 HM.out).mono ?_
  rintro e w3 ⟨A', c', rfl, hst, hb3⟩
  have z3 := hb3.size
  have B3 := Lib.hid (B2.out.trans (hb3.mono (by omega)))
  have HS := Lib.hid hst
  clear hb3 hst x0 x1 x2 x3 y0 y1 y2 y3
  go_wp2_with (fail)
  have B4 := Lib.hid (B3.out.alloc (by omega) (.cells #[.string ⟨#[97]⟩, .string ⟨#[36, 36]⟩, .string ⟨#[98]⟩, .string ⟨#[]⟩] 9))
  refine (texts_any A' (some ⟨w3.heap.size, 0, none⟩) c' 4 [⟨#[97]⟩, ⟨#[36, 36]⟩, ⟨#[98]⟩, ⟨#[]⟩] _ (by decide) (HS.out.below ((Below.refl _ _).alloc (Nat.le_refl _) _)) (awake_lit w3)).mono ?_
  rintro e w4 ⟨rfl, n, rfl⟩
  have B5 := Lib.hid (below_drewN B4.out n)
  go_wp2_with (fail)
  refine (H4.out _).mono ?_
  rintro e w5 ⟨rfl, hb5⟩
  have z5 := hb5.size
  have B6 := Lib.hid (B5.out.trans (hb5.mono (by simp; omega)))
  clear hb5
  simp at z5
  go_wp2_with (fail)
  refine (H5.out _).mono ?_
  rintro e w6 ⟨rfl, hb6⟩
  have z6 := hb6.size
  have B7 := Lib.hid (B6.out.trans (hb6.mono (by omega)))
  clear hb6
  go_wp2_with (fail)
  refine (H6.out _).mono ?_
  rintro e w7 ⟨rfl, hb7⟩
  have z7 := hb7.size
  have B8 := Lib.hid (B7.out.trans (hb7.mono (by omega)))
  clear hb7
  go_wp2_with (fail)
  go_ret
  exact ⟨rfl, B8.out⟩
end Go.Proofs.Ytgihfnnffailiab
