/- What is proved: the law LexerWords answers true, whatever the text and the tokens. -/
import Derived.Test.YtgihfnnffailiabRefWds
import Derived.Test.YtgihfnnffailiabAwake2
set_option linter.unusedVariables false
namespace Go.Proofs.Ytgihfnnffailiab
open Go.RowKit

set_option maxHeartbeats 1000000 in
theorem words_law (s : ByteArray) (A : Option Addr) (c : Nat) (l : List Tok) (w : World) (hl : l.length ≤ 9223372036854775807) (hr : TokA w A l) :
    Calls Try.prog 4 #[.string s, .slice A l.length c] w fun e w' => e = .returned (.bool true) ∧ Below w.heap.size w w' := by
  by_cases h1 : 300 < s.size
  · go_enter Try.func4, Try.ntmps4
    go_wp2_with (fail)
    refine (awake_any _).mono ?_
    rintro e w1 ⟨rfl, hb⟩
    go_wp2_with (fail)
    go_ret
    exact ⟨rfl, hb⟩
  · by_cases h2 : 100 < l.length
    · go_enter Try.func4, Try.ntmps4
      go_wp2_with (fail)
      refine (awake_any _).mono ?_
      rintro e w1 ⟨rfl, hb⟩
      go_wp2_with (fail)
      go_ret
      exact ⟨rfl, hb⟩
    · have J1 := Lib.hid (fun w ht => join_any s A c l w (by omega) (by omega) ht)
      have J2 := Lib.hid (fun w ht => r_join_any s A c l w (by omega) (by omega) ht)
      have W1 := Lib.hid (fun w ht => words_any s A c l w (by omega) (by omega) ht)
      have W2 := Lib.hid (fun w ht => r_words_any s A c l w (by omega) (by omega) ht)
      have hwl : (words s l).length ≤ 1000000 := by
        unfold words
        split
        · rw [List.length_map]
          omega
        · simp
      have HR := Lib.hid hr
      generalize joinS s l = js at *
      generalize words s l = ws at *
      have e1 : (js.toList == js.toList) = true := by simp
      have HWL := Lib.hid hwl
      clear hr hwl
      go_enter Try.func4, Try.ntmps4
      go_wp2_with (fail)
      refine (J1.out _ HR.out).mono ?_
      rintro e w1 ⟨rfl, hb⟩
      have B1 := Lib.hid hb
      have z1 := hb.size
      have R1 := Lib.hid (HR.out.below hb)
      clear hb
      go_wp2_with (fail)
      refine (J2.out _ R1.out).mono ?_
      rintro e w2 ⟨rfl, n, rfl⟩
      have R2 := Lib.hid (R1.out.below (below_drewN (Below.refl _ _) n))
      have B2 := Lib.hid (below_drewN B1.out n)
      go_wp2_with (fail)
      refine (W1.out _ R2.out).mono ?_
      rintro e w3 ⟨A3, c3, rfl, hst, hb⟩
      have S3 := Lib.hid hst
      have B3 := Lib.hid (B2.out.trans (hb.mono z1))
      have R3 := Lib.hid (R2.out.below hb)
      have z3 := B3.out.size
      clear hb hst
      go_wp2_with (fail)
      refine (W2.out _ R3.out).mono ?_
      rintro e w4 ⟨A4, c4, rfl, hst, hb⟩
      have S4 := Lib.hid hst
      have S3' := Lib.hid (S3.out.below hb)
      have B4 := Lib.hid (B3.out.trans (hb.mono z3))
      have z4 := B4.out.size
      clear hb hst
      go_wp2_with (fail)
      refine (texts_any A3 A4 c3 c4 ws _ HWL.out S3'.out S4.out).mono ?_
      rintro e w5 ⟨rfl, n5, rfl⟩
      have B5 := Lib.hid (below_drewN B4.out n5)
      go_wp2_with (fail)
      refine (awake_any _).mono ?_
      rintro e w6 ⟨rfl, hb⟩
      have B6 := Lib.hid (B5.out.trans (hb.mono (by simp; omega)))
      clear hb
      go_wp2_with (fail)
      go_ret
      exact ⟨rfl, B6.out⟩
end Go.Proofs.Ytgihfnnffailiab
