/- What is proved: the reference's Difference returns what the program's returns. -/
import Derived.Test.YtgihfnnffailiaaDiff
set_option linter.unusedVariables false
namespace Go.Proofs.Ytgihfnnffailiaa
open Go.RowKit

theorem csl_step2 {a b : ByteArray} {k j : Nat} (hc : k = cpl a.data.toList b.data.toList) (hj : j ≤ csl a.data.toList b.data.toList) (h1 : k + j < a.size) (h2 : k + j < b.size) (h : (a[a.size - 1 - j].toNat : Int) = (b[b.size - 1 - j].toNat : Int)) : j + 1 ≤ csl a.data.toList b.data.toList := by
  have e := byte_eq (by omega) (by omega) h
  have la := len_eq a
  have lb := len_eq b
  refine csl_more _ _ j hj (by omega) (by omega) ?_
  rw [la, lb]
  exact e
theorem csl_halt2 {a b : ByteArray} {k j : Nat} (hc : k = cpl a.data.toList b.data.toList) (hj : j ≤ csl a.data.toList b.data.toList) (h : ¬ k + j < a.size ∨ ¬ k + j < b.size ∨ (∃ (h1 : a.size - 1 - j < a.size) (h2 : b.size - 1 - j < b.size), k + j < a.size ∧ k + j < b.size ∧ ¬ (a[a.size - 1 - j].toNat : Int) = (b[b.size - 1 - j].toNat : Int))) : j = csl a.data.toList b.data.toList := by
  have la := len_eq a
  have lb := len_eq b
  rcases h with h | h | ⟨h1, h2, h3, h4, h⟩
  · exact csl_end _ _ j hj (by omega)
  · exact csl_end _ _ j hj (by omega)
  · refine csl_stop _ _ j hj (by omega) (by omega) ?_
    rw [la, lb]
    exact byte_ne h1 h2 h
theorem diffVal_of2 {a b : ByteArray} {k j : Nat} (hc : k = cpl a.data.toList b.data.toList) (hj : j = csl a.data.toList b.data.toList) : diffVal a b = .agg #[.int .i64 (k : Int), .int .i64 ((a.size : Int) - (j : Int)), .string (b.extract k (b.size - j))] := by
  have hl := csl_le a.data.toList b.data.toList
  have la := len_eq a
  unfold diffVal
  rw [← hc, ← hj, show ((a.size - j : Nat) : Int) = (a.size : Int) - (j : Int) from by omega]

set_option maxHeartbeats 1000000 in
theorem refDifference_any (a b : ByteArray) (w : World) (ha : a.size ≤ 1000000) (hb : b.size ≤ 1000000) :
    Calls Try.prog 28 #[.string a, .string b] w fun e w' => e = .returned (diffVal a b) ∧ Below w.heap.size w w' := by
  go_enter Try.func28, Try.ntmps28
  go_wp2
  go_loopw [5] (fun i wr => ∃ k n : Nat, k ≤ cpl a.data.toList b.data.toList ∧ i = .int .i64 (k : Int) ∧ wr = (box0 w).drewN n) (fun i _ => a.size - (intOf i).toNat)
  case atStart => exact ⟨0, 0, Nat.zero_le _, rfl, rfl⟩
  case round =>
    obtain ⟨k, n, hk, rfl, rfl⟩ := hrel
    have hle := cpl_le a.data.toList b.data.toList
    by_cases hgo : ∃ (h1 : k < a.size) (h2 : k < b.size), (a[k].toNat : Int) = (b[k].toNat : Int)
    · obtain ⟨h1, h2, h3⟩ := hgo
      have hk1 := cpl_step hk h1 h2 h3
      have h3b : ((a[k].toNat : Int) == (b[k].toNat : Int)) = true := by simpa using h3
      clear h3
      go_wp2
      go_quiet (fail)
      go_wp2
      refine ⟨⟨k + 1, n + nq, hk1, by go_num, rfl⟩, by simp [intOf]; omega⟩
    · have H : Hid (k = cpl a.data.toList b.data.toList) := cpl_halt hk (by
        by_cases g1 : k < a.size
        · by_cases g2 : k < b.size
          · exact .inr (.inr ⟨g1, g2, fun e => hgo ⟨g1, g2, e⟩⟩)
          · exact .inr (.inl g2)
        · exact .inl g1)
      have hka : k ≤ a.size := by have := len_eq a; omega
      have hkb : k ≤ b.size := by have := len_eq b; omega
      have hway : (¬ k < a.size) ∨ (k < a.size ∧ ¬ k < b.size) ∨ (∃ (h1 : k < a.size) (h2 : k < b.size), ((a[k].toNat : Int) == (b[k].toNat : Int)) = false) := by
        by_cases g1 : k < a.size
        · by_cases g2 : k < b.size
          · exact .inr (.inr ⟨g1, g2, by simpa using fun e => hgo ⟨g1, g2, e⟩⟩)
          · exact .inr (.inl ⟨g1, g2⟩)
        · exact .inl g1
      clear hgo hle hk
      rcases hway with g1 | ⟨g1, g2⟩ | ⟨g1, g2, g3⟩
      all_goals
        go_wp2
        go_quiet (fail)
        go_wp2
      all_goals
        go_loopw [6] (fun x wr => ∃ j n : Nat, j ≤ csl a.data.toList b.data.toList ∧ k + j ≤ a.size ∧ k + j ≤ b.size ∧ x = .int .i64 (j : Int) ∧ wr = (box0 w).drewN n) (fun x _ => a.size - (intOf x).toNat)
        case atStart => exact ⟨0, n + nq, Nat.zero_le _, hka, hkb, rfl, by first | rfl | simp⟩
        case round =>
          obtain ⟨j, m, hj, hp, hq, rfl, rfl⟩ := hrel
          by_cases hgo2 : ∃ (h1 : a.size - 1 - j < a.size) (h2 : b.size - 1 - j < b.size), k + j < a.size ∧ k + j < b.size ∧ (a[a.size - 1 - j].toNat : Int) = (b[b.size - 1 - j].toNat : Int)
          · obtain ⟨r1, r2, r3, r4, r5⟩ := hgo2
            have hj1 := csl_step2 H.out hj r3 r4 r5
            have r5b : ((a[a.size - 1 - j].toNat : Int) == (b[b.size - 1 - j].toNat : Int)) = true := by simpa using r5
            have g1 : (j : Int) < (a.size : Int) - (k : Int) := by omega
            have g2 : (j : Int) < (b.size : Int) - (k : Int) := by omega
            clear r5
            go_wp2
            have m1 : IntKind.i64.wrap ((a.size : Int) - (k : Int)) = (a.size : Int) - (k : Int) := IntWalk.i64_in _ (by omega)
            have m2 : IntKind.i64.wrap ((b.size : Int) - (k : Int)) = (b.size : Int) - (k : Int) := IntWalk.i64_in _ (by omega)
            have x1 : (0 : Int) ≤ (a.size : Int) - 1 - (j : Int) := by omega
            have x1b : (j : Int) ≤ (a.size : Int) - 1 := by omega
            have y1b : (j : Int) ≤ (b.size : Int) - 1 := by omega
            have x3 : (a.size : Int) - 1 - (j : Int) < (a.size : Int) := by omega
            have y1 : (0 : Int) ≤ (b.size : Int) - 1 - (j : Int) := by omega
            have y3 : (b.size : Int) - 1 - (j : Int) < (b.size : Int) := by omega
            have x5 : ((a.size : Int) - 1 - (j : Int)).toNat = a.size - 1 - j := by omega
            have y5 : ((b.size : Int) - 1 - (j : Int)).toNat = b.size - 1 - j := by omega
            have x4 : IntKind.i64.wrap ((a.size : Int) - 1) = (a.size : Int) - 1 := IntWalk.i64_in _ (by omega)
            have y4 : IntKind.i64.wrap ((b.size : Int) - 1) = (b.size : Int) - 1 := IntWalk.i64_in _ (by omega)
            have x6 : IntKind.i64.wrap ((a.size : Int) - 1 - (j : Int)) = (a.size : Int) - 1 - (j : Int) := IntWalk.i64_in _ (by omega)
            have y6 : IntKind.i64.wrap ((b.size : Int) - 1 - (j : Int)) = (b.size : Int) - 1 - (j : Int) := IntWalk.i64_in _ (by omega)
            go_quiet (fail)
            clear m1 m2 x4 y4 x6 y6
            go_wp2
            refine ⟨⟨j + 1, m + nq, hj1, by omega, by omega, by go_num, by first | rfl | simp⟩, by simp [intOf]; omega⟩
          · have HJ : Hid (j = csl a.data.toList b.data.toList) := csl_halt2 H.out hj (by
              by_cases g1 : k + j < a.size
              · by_cases g2 : k + j < b.size
                · exact .inr (.inr ⟨by omega, by omega, g1, g2, fun e => hgo2 ⟨by omega, by omega, g1, g2, e⟩⟩)
                · exact .inr (.inl g2)
              · exact .inl g1)
            have hway2 : (¬ (j : Int) < (a.size : Int) - (k : Int)) ∨ ((j : Int) < (a.size : Int) - (k : Int) ∧ ¬ (j : Int) < (b.size : Int) - (k : Int)) ∨ (∃ (h1 : a.size - 1 - j < a.size) (h2 : b.size - 1 - j < b.size), (j : Int) < (a.size : Int) - (k : Int) ∧ (j : Int) < (b.size : Int) - (k : Int) ∧ ((a[a.size - 1 - j].toNat : Int) == (b[b.size - 1 - j].toNat : Int)) = false) := by
              by_cases g1 : k + j < a.size
              · by_cases g2 : k + j < b.size
                · exact .inr (.inr ⟨by omega, by omega, by omega, by omega, by simpa using fun e => hgo2 ⟨by omega, by omega, g1, g2, e⟩⟩)
                · exact .inr (.inl ⟨by omega, by omega⟩)
              · exact .inl (by omega)
            have HV := Lib.hid (diffVal_of2 H.out HJ.out)
            have hbj : (k : Int) ≤ (b.size : Int) - (j : Int) := by omega
            have hbj2 : (b.size : Int) - (j : Int) ≤ (b.size : Int) := by omega
            have hbj3 : (0 : Int) ≤ (b.size : Int) - (j : Int) := by omega
            have hbj4 : ((b.size : Int) - (j : Int)).toNat = b.size - j := by omega
            have hbj5 : k ≤ b.size - j := by omega
            have hbj6 : b.size - j ≤ b.size := by omega
            have hbj7 : (j : Int) ≤ (b.size : Int) := by omega
            have hbj8 : (j : Int) ≤ (a.size : Int) := by omega
            clear hgo2 hj
            unfold box0
            rcases hway2 with e1 | ⟨e1, e2⟩ | ⟨e0, e0', e1, e2, e3⟩
            · try (exfalso; omega)
              all_goals
                have e1b : decide ((j : Int) < (a.size : Int) - (k : Int)) = false := by simpa using e1
                go_wp2
                have m1 : IntKind.i64.wrap ((a.size : Int) - (k : Int)) = (a.size : Int) - (k : Int) := IntWalk.i64_in _ (by omega)
                have m2 : IntKind.i64.wrap ((b.size : Int) - (k : Int)) = (b.size : Int) - (k : Int) := IntWalk.i64_in _ (by omega)
                go_quiet (fail)
                clear m1 m2
                go_wp2
                refine bodyPost_ret (v := .agg #[.int .i64 (k : Int), .int .i64 ((a.size : Int) - (j : Int)), .string (b.extract k (b.size - j))]) (by simp [results, Try.results28, go_sem]) rfl ⟨by rw [HV.out], below_box⟩
            · try (exfalso; omega)
              all_goals
                have e2b : decide ((j : Int) < (b.size : Int) - (k : Int)) = false := by simpa using e2
                go_wp2
                have m1 : IntKind.i64.wrap ((a.size : Int) - (k : Int)) = (a.size : Int) - (k : Int) := IntWalk.i64_in _ (by omega)
                have m2 : IntKind.i64.wrap ((b.size : Int) - (k : Int)) = (b.size : Int) - (k : Int) := IntWalk.i64_in _ (by omega)
                go_quiet (fail)
                clear m1 m2
                go_wp2
                refine bodyPost_ret (v := .agg #[.int .i64 (k : Int), .int .i64 ((a.size : Int) - (j : Int)), .string (b.extract k (b.size - j))]) (by simp [results, Try.results28, go_sem]) rfl ⟨by rw [HV.out], below_box⟩
            · try (exfalso; omega)
              all_goals
                go_wp2
                have m1 : IntKind.i64.wrap ((a.size : Int) - (k : Int)) = (a.size : Int) - (k : Int) := IntWalk.i64_in _ (by omega)
                have m2 : IntKind.i64.wrap ((b.size : Int) - (k : Int)) = (b.size : Int) - (k : Int) := IntWalk.i64_in _ (by omega)
                have x1 : (0 : Int) ≤ (a.size : Int) - 1 - (j : Int) := by omega
                have x1b : (j : Int) ≤ (a.size : Int) - 1 := by omega
                have y1b : (j : Int) ≤ (b.size : Int) - 1 := by omega
                have x3 : (a.size : Int) - 1 - (j : Int) < (a.size : Int) := by omega
                have y1 : (0 : Int) ≤ (b.size : Int) - 1 - (j : Int) := by omega
                have y3 : (b.size : Int) - 1 - (j : Int) < (b.size : Int) := by omega
                have x5 : ((a.size : Int) - 1 - (j : Int)).toNat = a.size - 1 - j := by omega
                have y5 : ((b.size : Int) - 1 - (j : Int)).toNat = b.size - 1 - j := by omega
                have x4 : IntKind.i64.wrap ((a.size : Int) - 1) = (a.size : Int) - 1 := IntWalk.i64_in _ (by omega)
                have y4 : IntKind.i64.wrap ((b.size : Int) - 1) = (b.size : Int) - 1 := IntWalk.i64_in _ (by omega)
                have x6 : IntKind.i64.wrap ((a.size : Int) - 1 - (j : Int)) = (a.size : Int) - 1 - (j : Int) := IntWalk.i64_in _ (by omega)
                have y6 : IntKind.i64.wrap ((b.size : Int) - 1 - (j : Int)) = (b.size : Int) - 1 - (j : Int) := IntWalk.i64_in _ (by omega)
                go_quiet (fail)
                clear m1 m2 x4 y4 x6 y6
                go_wp2
                refine bodyPost_ret (v := .agg #[.int .i64 (k : Int), .int .i64 ((a.size : Int) - (j : Int)), .string (b.extract k (b.size - j))]) (by simp [results, Try.results28, go_sem]) rfl ⟨by rw [HV.out], below_box⟩
end Go.Proofs.Ytgihfnnffailiaa
