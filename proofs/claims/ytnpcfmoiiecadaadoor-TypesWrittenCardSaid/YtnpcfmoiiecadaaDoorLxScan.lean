/- What is proved: the scanner's small functions return what the plain functions say. -/
import Derived.Test.YtnpcfmoiiecadaaDoorLxKw
import Derived.Test.YtnpcfmoiiecadaaDoorLxScanPlain
import Derived.Deep.QuietTactic
import Derived.BigQuiet
import Derived.Deep.Draws
set_option linter.unusedVariables false
namespace Go.Proofs.YtnpcfmoiiecadaaDoor.Lx
open Go.RowKit

theorem u8_eq (b c : UInt8) : (b == c) = ((b.toNat : Int) == (c.toNat : Int)) := by
  rw [Bool.eq_iff_iff]
  simp only [beq_iff_eq]
  constructor
  · rintro rfl
    rfl
  · intro h
    exact UInt8.toNat_inj.1 (by omega)

theorem white_eq (b : UInt8) : white b = ((b.toNat : Int) == 9 || (b.toNat : Int) == 10 || (b.toNat : Int) == 13 || (b.toNat : Int) == 32) := by
  unfold white
  rw [u8_eq, u8_eq, u8_eq, u8_eq]
  rfl
theorem letter_eq (b : UInt8) : letter b = (decide ((97 : Int) ≤ (b.toNat : Int)) && decide ((b.toNat : Int) ≤ 122)) := by
  unfold letter
  rw [Bool.eq_iff_iff]
  simp only [Bool.and_eq_true, decide_eq_true_eq]
  omega
theorem digit_eq (b : UInt8) : digit b = (decide ((48 : Int) ≤ (b.toNat : Int)) && decide ((b.toNat : Int) ≤ 57)) := by
  unfold digit
  rw [Bool.eq_iff_iff]
  simp only [Bool.and_eq_true, decide_eq_true_eq]
  omega

theorem digit_any (b : UInt8) (w : World) : Calls Tryd.prog 67 #[.int .u8 (b.toNat : Int)] w fun e w' => e = .returned (.bool (digit b)) ∧ w = w' := by
  have HV := Lib.hid (digit_eq b)
  go_enter Tryd.func67, Tryd.ntmps67
  go_wp2
  all_goals
    go_ret
    refine ⟨congrArg (fun x => Ending.returned (Value.bool x)) ?_, rfl⟩
    rw [HV.out]
    all_goals first | rfl | (simp [*]; done) | (simp; omega)

end Go.Proofs.YtnpcfmoiiecadaaDoor.Lx
