/- What is proved: the scanner's small functions return what the plain functions say. -/
import Derived.Test.YtoopnddlcofhoaaGreatDoorLxKw
import Derived.Test.YtoopnddlcofhoaaGreatDoorLxScanPlain
import Derived.Deep.QuietTactic
import Derived.BigQuiet
import Derived.Deep.Draws
set_option linter.unusedVariables false
namespace Go.Proofs.YtoopnddlcofhoaaGreatDoor.Lx
open Go.RowKit

theorem u8_eq (b c : UInt8) : (b == c) = ((b.toNat : Int) == (c.toNat : Int)) := by
  rw [Bool.eq_iff_iff]
  simp only [beq_iff_eq]
  constructor
  · rintro rfl
    rfl
  · intro h
    exact UInt8.toNat_inj.1 (by omega)

theorem white_eq (b : UInt8) : white b = ((b.toNat : Int) == 9 || (b.toNat : Int) == 10 || (b.toNat : Int) == 13 || (b.toNat : Int) == 32) := by
  unfold white
  rw [u8_eq, u8_eq, u8_eq, u8_eq]
  rfl
theorem letter_eq (b : UInt8) : letter b = (decide ((97 : Int) ≤ (b.toNat : Int)) && decide ((b.toNat : Int) ≤ 122)) := by
  unfold letter
  rw [Bool.eq_iff_iff]
  simp only [Bool.and_eq_true, decide_eq_true_eq]
  omega
theorem digit_eq (b : UInt8) : digit b = (decide ((48 : Int) ≤ (b.toNat : Int)) && decide ((b.toNat : Int) ≤ 57)) := by
  unfold digit
  rw [Bool.eq_iff_iff]
  simp only [Bool.and_eq_true, decide_eq_true_eq]
  omega

theorem white_any (b : UInt8) (w : World) : Calls Tryz.prog 103 #[.int .u8 (b.toNat : Int)] w fun e w' => e = .returned (.bool (white b)) ∧ w = w' := by
  have HV := Lib.hid (white_eq b)
  go_enter Tryz.func103, Tryz.ntmps103
  go_wp2
  all_goals
    go_ret
    refine ⟨congrArg (fun x => Ending.returned (Value.bool x)) ?_, rfl⟩
    rw [HV.out]
    all_goals first | rfl | (simp [*]; done)

theorem letter_any (b : UInt8) (w : World) : Calls Tryz.prog 105 #[.int .u8 (b.toNat : Int)] w fun e w' => e = .returned (.bool (letter b)) ∧ w = w' := by
  have HV := Lib.hid (letter_eq b)
  go_enter Tryz.func105, Tryz.ntmps105
  go_wp2
  all_goals
    go_ret
    refine ⟨congrArg (fun x => Ending.returned (Value.bool x)) ?_, rfl⟩
    rw [HV.out]
    all_goals first | rfl | (simp [*]; done) | (simp; omega)

theorem digit_any (b : UInt8) (w : World) : Calls Tryz.prog 88 #[.int .u8 (b.toNat : Int)] w fun e w' => e = .returned (.bool (digit b)) ∧ w = w' := by
  have HV := Lib.hid (digit_eq b)
  go_enter Tryz.func88, Tryz.ntmps88
  go_wp2
  all_goals
    go_ret
    refine ⟨congrArg (fun x => Ending.returned (Value.bool x)) ?_, rfl⟩
    rw [HV.out]
    all_goals first | rfl | (simp [*]; done) | (simp; omega)

theorem inName_any (b : UInt8) (w : World) : Calls Tryz.prog 107 #[.int .u8 (b.toNat : Int)] w fun e w' => e = .returned (.bool (inName b)) ∧ w = w' := by
  have hd : inName b = (letter b || digit b || ((b.toNat : Int) == 95)) := by
    unfold inName
    rw [u8_eq b 95]
    rfl
  have HV := Lib.hid hd
  have h1 := Lib.hid (letter_any b w)
  have h2 := Lib.hid (digit_any b w)
  clear hd
  go_enter Tryz.func107, Tryz.ntmps107
  cases hl : letter b with
  | true =>
    rw [hl] at h1
    go_wp2_with (fail)
    refine h1.out.mono ?_
    rintro e w' ⟨rfl, rfl⟩
    go_wp2_with (fail)
    go_ret
    exact ⟨congrArg (fun x => Ending.returned (Value.bool x)) (by rw [HV.out, hl]; rfl), rfl⟩
  | false =>
    rw [hl] at h1
    cases hd : digit b with
    | true =>
      rw [hd] at h2
      go_wp2_with (fail)
      refine h1.out.mono ?_
      rintro e w' ⟨rfl, rfl⟩
      go_wp2_with (fail)
      refine h2.out.mono ?_
      rintro e w' ⟨rfl, rfl⟩
      go_wp2_with (fail)
      go_ret
      exact ⟨congrArg (fun x => Ending.returned (Value.bool x)) (by rw [HV.out, hl, hd]; rfl), rfl⟩
    | false =>
      rw [hd] at h2
      go_wp2_with (fail)
      refine h1.out.mono ?_
      rintro e w' ⟨rfl, rfl⟩
      go_wp2_with (fail)
      refine h2.out.mono ?_
      rintro e w' ⟨rfl, rfl⟩
      go_wp2_with (fail)
      go_ret
      exact ⟨congrArg (fun x => Ending.returned (Value.bool x)) (by rw [HV.out, hl, hd]; rfl), rfl⟩

set_option maxHeartbeats 400000 in
/-- 'while' with a closure that has captured one place -/
theorem while_cap (K : Nat) (cap : Value) (p : Nat → Bool) (s : ByteArray) (g i : Nat) (w : World) (hs : s.size ≤ 1000000) (hi : i ≤ s.size) (hg : w.cell? ⟨g, 0, none⟩ = some (.string s))
    (eK : ∀ args w, (callFunc K args).run Tryz.prog w = .ok (.enter K args) w)
    (hK : ∀ j : Nat, j < s.size → Calls Tryz.prog K #[.int .i64 (j : Int), cap] w fun e w' => e = .returned (.bool (p j)) ∧ w = w') :
    Calls Tryz.prog 101 #[.pointer (some ⟨g, 0, none⟩), .int .i64 (i : Int), .func (.func K) #[] #[cap]] w fun e w' => e = .returned (.int .i64 (whl p (s.size - i) i : Int)) ∧ w = w' := by
  have HK := Lib.hid hK
  clear hK
  go_enter Tryz.func101, Tryz.ntmps101
  go_wp2_with (fail)
  go_loop [1] (fun x => ∃ k : Nat, k ≤ s.size ∧ x = .int .i64 (k : Int) ∧ Hid (whl p (s.size - i) i = whl p (s.size - k) k)) (fun x => s.size - (intOf x).toNat)
  case atStart => exact ⟨i, hi, rfl, rfl⟩
  case round =>
    obtain ⟨k, hk, rfl, hw⟩ := hrel
    by_cases hlt : k < s.size
    · have hlt' : (k : Int) < (s.size : Int) := by omega
      have hc := Lib.hid (HK.out k hlt)
      cases hp : p k with
      | true =>
        have HN := Lib.hid (hw.out.trans (whl_yes p s.size k hlt hp))
        rw [hp] at hc
        clear hp
        go_wp2_with (fail)
        refine hc.out.mono ?_
        rintro e w' ⟨rfl, rfl⟩
        go_wp2_with (fail)
        exact ⟨⟨k + 1, by omega, by go_num, HN⟩, by simp [intOf]; omega⟩
      | false =>
        have HN := Lib.hid (hw.out.trans (whl_no p (s.size - k) k hp))
        rw [hp] at hc
        clear hp
        go_wp2_with (fail)
        refine hc.out.mono ?_
        rintro e w' ⟨rfl, rfl⟩
        go_wp2_with (fail)
        go_ret
        exact ⟨by rw [HN.out]; rfl, rfl⟩
    · have hlt' : (s.size : Int) ≤ (k : Int) := by omega
      have HN := Lib.hid (hw.out.trans (whl_end p s.size k hlt))
      go_wp2_with (fail)
      go_ret
      exact ⟨by rw [HN.out]; rfl, rfl⟩
end Go.Proofs.YtoopnddlcofhoaaGreatDoor.Lx
