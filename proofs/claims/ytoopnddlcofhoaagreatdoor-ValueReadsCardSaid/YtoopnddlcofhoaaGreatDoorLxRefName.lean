/- What is proved: the reference's Number and Name return what the plain functions say. -/
import Derived.Test.YtoopnddlcofhoaaGreatDoorLxRefTok2
set_option linter.unusedVariables false
namespace Go.Proofs.YtoopnddlcofhoaaGreatDoor.Lx
open Go.RowKit

set_option maxHeartbeats 1000000 in
theorem r_name_any (s : ByteArray) (w : World) :
    Calls Tryz.prog 6 #[.string s] w fun e w' => e = .returned (.bool (nameB s.data.toList)) ∧ Below w.heap.size w w' := by
  have hll : s.data.toList.length = s.size := by simp
  have hv : nameB s.data.toList = (decide (1 ≤ s.size) && decide (s.size ≤ 16) && letter (at_ s.data.toList 0) && !isKw s.data.toList && (tokAt s.data.toList 0).2 == s.size) := by unfold nameB; rw [hll]
  by_cases h1 : s.size < 1
  · rw [show decide (1 ≤ s.size) = false from decide_eq_false (by omega)] at hv
    have HV := Lib.hid hv
    clear hv hll
    go_enter Tryz.func6, Tryz.ntmps6
    go_wp2_with (fail)
    go_ret
    exact ⟨ret_bool (by rw [HV.out]; rfl), Below.refl _ _⟩
  · by_cases h2 : 16 < s.size
    · rw [show decide (s.size ≤ 16) = false from decide_eq_false (by omega)] at hv
      have HV := Lib.hid hv
      clear hv hll
      go_enter Tryz.func6, Tryz.ntmps6
      go_wp2_with (fail)
      go_ret
      exact ⟨ret_bool (by rw [HV.out]; simp), Below.refl _ _⟩
    · rw [show decide (1 ≤ s.size) = true from decide_eq_true (by omega), show decide (s.size ≤ 16) = true from decide_eq_true (by omega), at_get s 0 (by omega)] at hv
      have h0 : 0 < s.size := by omega
      have HL := Lib.hid (r_letter_any s[0] w)
      have HK := Lib.hid (r_keyword_any s w)
      have HT := Lib.hid (fun w => r_token_any s 0 w (by omega) h0)
      clear hll
      have hte : ((tokAt s.data.toList 0).2 == s.size) = ((((tokAt s.data.toList 0).2 : Nat) : Int) == (s.size : Int)) := by
        rw [Bool.eq_iff_iff, beq_iff_eq, beq_iff_eq]
        omega
      rw [hte] at hv
      generalize nameB s.data.toList = z at *
      generalize tokAt s.data.toList 0 = tk at *
      generalize isKw s.data.toList = q at *
      generalize hc : letter s[0] = c at *
      have HV := Lib.hid hv
      clear hv hte hc
      cases c with
      | false =>
        go_enter Tryz.func6, Tryz.ntmps6
        go_wp2_with (fail)
        refine HL.out.mono ?_
        rintro e w' ⟨rfl, rfl⟩
        go_wp2_with (fail)
        go_ret
        exact ⟨ret_bool (by rw [HV.out]; rfl), Below.refl _ _⟩
      | true =>
        cases q with
        | true =>
          go_enter Tryz.func6, Tryz.ntmps6
          go_wp2_with (fail)
          refine HL.out.mono ?_
          rintro e w' ⟨rfl, rfl⟩
          go_wp2_with (fail)
          refine HK.out.mono ?_
          rintro e w1 ⟨rfl, hb⟩
          go_wp2_with (fail)
          go_ret
          exact ⟨ret_bool (by rw [HV.out]; rfl), hb⟩
        | false =>
          go_enter Tryz.func6, Tryz.ntmps6
          go_wp2_with (fail)
          refine HL.out.mono ?_
          rintro e w' ⟨rfl, rfl⟩
          go_wp2_with (fail)
          refine HK.out.mono ?_
          rintro e w1 ⟨rfl, hb⟩
          have B1 := Lib.hid hb
          have z1 := hb.size
          clear hb
          go_wp2_with (fail)
          refine (HT.out _).mono ?_
          rintro e w2 ⟨rfl, hb⟩
          have B2 := Lib.hid (B1.out.trans (hb.mono z1))
          clear hb
          go_wp2_with (fail)
          go_ret
          exact ⟨ret_bool (by rw [HV.out]; rfl), B2.out⟩
end Go.Proofs.YtoopnddlcofhoaaGreatDoor.Lx
