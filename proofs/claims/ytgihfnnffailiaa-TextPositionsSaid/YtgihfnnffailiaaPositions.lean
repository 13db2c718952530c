/- What is proved: TextPositions answers true at every string and numbers. -/
import Derived.Test.YtgihfnnffailiaaAwake
import Derived.Test.YtgihfnnffailiaaLine
set_option linter.unusedVariables false
namespace Go.Proofs.Ytgihfnnffailiaa
open Go.RowKit

set_option maxHeartbeats 1000000 in
theorem positions_core (s t : ByteArray) (k line col x : Int) (ok : Bool) (w : World) (hs : s.size ≤ 200)
    (hO : ∀ w1, Calls Try.prog 12 #[.string s, .int .i64 line, .int .i64 col] w1 fun e w' => e = .returned (.tuple #[.int .i64 x, .bool ok]) ∧ Below w1.heap.size w1 w')
    (hP : ∀ w1, Calls Try.prog 13 #[.string s, .int .i64 line, .int .i64 col] w1 fun e w' => e = .returned (.tuple #[.int .i64 x, .bool ok]) ∧ w1 = w')
    (hL : ∀ w1, Calls Try.prog 17 #[.string s, .int .i64 line] w1 fun e w' => e = .returned (.string t) ∧ Below w1.heap.size w1 w')
    (hR : ∀ w1, Calls Try.prog 18 #[.string s, .int .i64 line] w1 fun e w' => e = .returned (.string t) ∧ Below w1.heap.size w1 w') :
    Calls Try.prog 3 #[.string s, .int .i64 k, .int .i64 line, .int .i64 col] w fun e w' => e = .returned (.bool true) ∧ Below w.heap.size w w' := by
  have HO := hide hO
  have HP := hide hP
  have HL := hide hL
  have HR := hide hR
  have H1 := hide (fun w1 => position_any s k w1 (by omega))
  have H2 := hide (fun w1 => refPosition_any s k w1 (by omega))
  have H3 := hide (fun w1 => lines_any s w1 (by omega))
  have H4 := hide (fun w1 => refLines_any s w1 (by omega))
  have hln := lnsTo_length s.data.toList s.size
  clear hO hP hL hR
  generalize (posAt s.data.toList k).1 = a at *
  generalize (posAt s.data.toList k).2 = b at *
  generalize lnsTo s.data.toList s.size = ls at *
  go_enter Try.func3, Try.ntmps3
  go_wp2_with (fail)
  refine ((unhide H1) _).mono ?_
  rintro e w1 ⟨rfl, rfl⟩
  go_wp2_with (fail)
  refine ((unhide H2) _).mono ?_
  rintro e w1 ⟨rfl, rfl⟩
  go_wp2_with (fail)
  refine ((unhide HO) _).mono ?_
  rintro e w1 ⟨rfl, hb1⟩
  have z1 := hb1.size
  have B1 := hide hb1
  clear hb1
  go_wp2_with (fail)
  refine ((unhide HP) _).mono ?_
  rintro e w2 ⟨rfl, rfl⟩
  go_wp2_with (fail)
  refine ((unhide H3) _).mono ?_
  rintro e w2 ⟨v2, rfl, ho2, hb2⟩
  have z2 := hb2.size
  have B2 := hide ((unhide B1).trans (hb2.mono z1))
  have O2 := hide ho2
  clear hb2 ho2
  go_wp2_with (fail)
  refine ((unhide H4) _).mono ?_
  rintro e w3 ⟨v3, rfl, ho3, hb3⟩
  have z3 := hb3.size
  have B3 := hide ((unhide B2).trans (hb3.mono (by omega)))
  have O2' := hide (own_below (unhide O2) hb3)
  have HI := hide (ints_own _ _ _ _ v2 v3 ls w3 (by omega) (by omega) (unhide O2') ho3)
  clear hb3 ho3
  go_wp2_with (fail)
  refine (unhide HI).mono ?_
  rintro e w4 ⟨rfl, n4, rfl⟩
  go_wp2_with (fail)
  refine ((unhide HL) _).mono ?_
  rintro e w4 ⟨rfl, hb4⟩
  have z4 := hb4.size
  have B4 := hide ((below_drewN (unhide B3) n4).trans (hb4.mono (by simp; omega)))
  simp at z4
  clear hb4
  go_wp2_with (fail)
  refine ((unhide HR) _).mono ?_
  rintro e w5 ⟨rfl, hb5⟩
  have z5 := hb5.size
  have B5 := hide ((unhide B4).trans (hb5.mono (by omega)))
  clear hb5
  go_wp2_with (fail)
  refine (awake_any _).mono ?_
  rintro e w6 ⟨rfl, hb6⟩
  have B6 := hide ((unhide B5).trans (hb6.mono (by omega)))
  clear hb6
  go_wp2_with (fail)
  go_ret
  exact ⟨rfl, unhide B6⟩

theorem positions_law (s : ByteArray) (k line col : Int) (w : World) :
    Calls Try.prog 3 #[.string s, .int .i64 k, .int .i64 line, .int .i64 col] w fun e w' => e = .returned (.bool true) ∧ Below w.heap.size w w' := by
  by_cases hs : 200 < s.size
  · go_enter Try.func3, Try.ntmps3
    go_wp2_with (fail)
    refine (awake_any _).mono ?_
    rintro e w1 ⟨rfl, hb1⟩
    go_wp2_with (fail)
    go_ret
    exact ⟨rfl, hb1⟩
  · have hs2 : s.size ≤ 1000000 := by omega
    obtain ⟨t, hL, hR⟩ : ∃ t, (∀ w1, Calls Try.prog 17 #[.string s, .int .i64 line] w1 fun e w' => e = .returned (.string t) ∧ Below w1.heap.size w1 w') ∧ (∀ w1, Calls Try.prog 18 #[.string s, .int .i64 line] w1 fun e w' => e = .returned (.string t) ∧ Below w1.heap.size w1 w') := by
      by_cases hl : line < 1 ∨ ((L s.data.toList).length : Int) < line
      · exact ⟨_, fun w1 => line_out s line w1 hs2 hl, fun w1 => refLine_out s line w1 hs2 hl⟩
      · obtain ⟨j, rfl⟩ : ∃ j : Nat, line = (j : Int) + 1 := ⟨(line - 1).toNat, by omega⟩
        have hj : j < (L s.data.toList).length := by omega
        exact ⟨_, fun w1 => line_in s j w1 hs2 hj, fun w1 => refLine_in s j w1 hs2 hj⟩
    by_cases h : ∃ i : Nat, i ≤ s.size ∧ (((posTo s.data.toList i).1 : Int) = line ∧ ((posTo s.data.toList i).2 : Int) = col)
    · obtain ⟨i, hi, rfl, rfl⟩ := h
      exact positions_core s t k _ _ i true w (by omega) (fun w1 => offset_hit s i w1 hs2 hi) (fun w1 => refOffset_hit s i w1 hs2 hi) hL hR
    · have h' : ∀ i : Nat, i ≤ s.size → ¬ (((posTo s.data.toList i).1 : Int) = line ∧ ((posTo s.data.toList i).2 : Int) = col) := fun i hi he => h ⟨i, hi, he⟩
      exact positions_core s t k _ _ 0 false w (by omega) (fun w1 => offset_miss s line col w1 hs2 h') (fun w1 => refOffset_miss s line col w1 hs2 h') hL hR
end Go.Proofs.Ytgihfnnffailiaa
