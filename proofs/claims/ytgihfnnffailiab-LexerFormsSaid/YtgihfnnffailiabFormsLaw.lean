/- What is proved: the law LexerForms answers true, whatever the strings. -/
import Derived.Test.YtgihfnnffailiabRefSpace
set_option linter.unusedVariables false
namespace Go.Proofs.Ytgihfnnffailiab
open Go.RowKit

set_option maxHeartbeats 1000000 in
theorem forms_law (a b : ByteArray) (w : World) :
    Calls Try.prog 5 #[.string a, .string b] w fun e w' => e = .returned (.bool true) ∧ Below w.heap.size w w' := by
  by_cases h1 : 60 < a.size
  · go_enter Try.func5, Try.ntmps5
    go_wp2_with (fail)
    refine (awake_any _).mono ?_
    rintro e w1 ⟨rfl, hb⟩
    go_wp2_with (fail)
    go_ret
    exact ⟨rfl, hb⟩
  · by_cases h2 : 60 < b.size
    · go_enter Try.func5, Try.ntmps5
      go_wp2_with (fail)
      refine (awake_any _).mono ?_
      rintro e w1 ⟨rfl, hb⟩
      go_wp2_with (fail)
      go_ret
      exact ⟨rfl, hb⟩
    · have N1 := Lib.hid (number_any a)
      have N2 := Lib.hid (r_number_any a)
      have K1 := Lib.hid (fun w => keyword_any a w (by unfold maxLen; omega))
      have K2 := Lib.hid (r_keyword_any a)
      have M1 := Lib.hid (name_any a)
      have M2 := Lib.hid (r_name_any a)
      have S1 := Lib.hid (fun w => space_any a b w (by omega) (by omega))
      have S2 := Lib.hid (fun w => r_space_any a b w (by omega) (by omega))
      generalize numV a = nv at *
      generalize numOk a = nk at *
      generalize isKw a.data.toList = kw at *
      generalize nameB a.data.toList = nm at *
      generalize spaceS a b = sp at *
      have e1 : (nk == nk) = true := by simp
      have e2 : (kw == kw) = true := by simp
      have e3 : (nm == nm) = true := by simp
      have e4 : (sp.toList == sp.toList) = true := by simp
      have e5 : ((nv : Int) == (nv : Int)) = true := by simp
      go_enter Try.func5, Try.ntmps5
      go_wp2_with (fail)
      refine (N1.out _).mono ?_
      rintro e w' ⟨rfl, rfl⟩
      go_wp2_with (fail)
      refine (N2.out _).mono ?_
      rintro e w' ⟨rfl, rfl⟩
      go_wp2_with (fail)
      refine (K1.out _).mono ?_
      rintro e w1 ⟨rfl, hb⟩
      have B1 := Lib.hid hb
      have z1 := hb.size
      clear hb
      go_wp2_with (fail)
      refine (K2.out _).mono ?_
      rintro e w2 ⟨rfl, hb⟩
      have B2 := Lib.hid (B1.out.trans (hb.mono z1))
      have z2 := B2.out.size
      clear hb
      go_wp2_with (fail)
      refine (M1.out _).mono ?_
      rintro e w3 ⟨rfl, hb⟩
      have B3 := Lib.hid (B2.out.trans (hb.mono z2))
      have z3 := B3.out.size
      clear hb
      go_wp2_with (fail)
      refine (M2.out _).mono ?_
      rintro e w4 ⟨rfl, hb⟩
      have B4 := Lib.hid (B3.out.trans (hb.mono z3))
      have z4 := B4.out.size
      clear hb
      go_wp2_with (fail)
      refine (S1.out _).mono ?_
      rintro e w5 ⟨rfl, hb⟩
      have B5 := Lib.hid (B4.out.trans (hb.mono z4))
      have z5 := B5.out.size
      clear hb
      go_wp2_with (fail)
      refine (S2.out _).mono ?_
      rintro e w6 ⟨rfl, hb⟩
      have B6 := Lib.hid (B5.out.trans (hb.mono z5))
      have z6 := B6.out.size
      clear hb
      go_wp2_with (fail)
      refine (awake_any _).mono ?_
      rintro e w7 ⟨rfl, hb⟩
      have B7 := Lib.hid (B6.out.trans (hb.mono z6))
      clear hb
      go_wp2_with (fail)
      go_ret
      exact ⟨rfl, B7.out⟩
end Go.Proofs.Ytgihfnnffailiab
