/- What is proved: Position (the program's and the reference's) returns line and column of an offset of the text, and 0 and 0 elsewhere. -/
import Derived.Test.YtgihfnnffailiaaProg
import Derived.Test.YtgihfnnffailiaaPosPlain
import Derived.Test.YtgihfnnffailiaaShelf
import Derived.Test.YtgihfnnffailiaaLines
import Derived.WalkKit
import Derived.OwnWalk
import Derived.Below
import Derived.Outline
import Derived.WalkLawsBesides
import Derived.IntWalk
import Derived.Lib.Hide
import Derived.LoopTactic
set_option linter.unusedVariables false
namespace Go.Proofs.Ytgihfnnffailiaa
open Go.RowKit

set_option maxHeartbeats 400000 in
theorem position_in (s : ByteArray) (k : Nat) (w : World) (hs : s.size ≤ 1000000) (hk : k ≤ s.size) :
    Calls Try.prog 10 #[.string s, .int .i64 (k : Int)] w fun e w' => e = .returned (.tuple #[.int .i64 ((posTo s.data.toList k).1 : Int), .int .i64 ((posTo s.data.toList k).2 : Int)]) ∧ w = w' := by
  have hbd := posTo_bd s.data.toList k
  have e1 := line_of_count s k hk
  have e2 := col_of_last s k hk
  have H1 := Lib.hid e1
  have H2 := Lib.hid e2
  have b1 : (Lib.countByte (s.data.toList.take k) 10 : Int) ≤ 1000000 := by omega
  have b2 : -1 ≤ Lib.lastIndexByte (s.extract 0 k) 10 := by omega
  have b3 : Lib.lastIndexByte (s.extract 0 k) 10 ≤ 1000000 := by omega
  clear e1 e2
  go_enter Try.func10, Try.ntmps10
  go_wp2_with (first | (go_at_call 31; refine (Try.strings_Count_one _ _ _).mono ?_; rintro e w' ⟨rfl, rfl⟩) | (go_at_call 32; refine (Try.strings_LastIndexByte _ _ (by simp [ByteArray.size_extract]; omega) _).mono ?_; rintro e w' ⟨rfl, rfl⟩))
  go_ret2
  refine ⟨?_, rfl⟩
  rw [← H1.out, ← H2.out]
  rfl

set_option maxHeartbeats 400000 in
theorem position_out (s : ByteArray) (k : Int) (w : World) (hs : s.size ≤ 1000000) (hk : k < 0 ∨ s.size < k) :
    Calls Try.prog 10 #[.string s, .int .i64 k] w fun e w' => e = .returned (.tuple #[.int .i64 0, .int .i64 0]) ∧ w = w' := by
  by_cases h0 : k < 0
  · go_enter Try.func10, Try.ntmps10
    go_wp2
    go_ret2
    exact ⟨rfl, rfl⟩
  · have h1 : (s.size : Int) < k := by omega
    go_enter Try.func10, Try.ntmps10
    go_wp2
    go_ret2
    exact ⟨rfl, rfl⟩

set_option maxHeartbeats 400000 in
theorem refPosition_in (s : ByteArray) (k : Nat) (w : World) (hs : s.size ≤ 1000000) (hk : k ≤ s.size) :
    Calls Try.prog 11 #[.string s, .int .i64 (k : Int)] w fun e w' => e = .returned (.tuple #[.int .i64 ((posTo s.data.toList k).1 : Int), .int .i64 ((posTo s.data.toList k).2 : Int)]) ∧ w = w' := by
  go_enter Try.func11, Try.ntmps11
  go_wp2
  go_loop [6, 7, 8] (fun a b i => ∃ j : Nat, j ≤ k ∧ a = .int .i64 ((posTo s.data.toList j).1 : Int) ∧ b = .int .i64 ((posTo s.data.toList j).2 : Int) ∧ i = .int .i64 (j : Int)) (fun _ _ i => k - (intOf i).toNat)
  case atStart => exact ⟨0, Nat.zero_le _, rfl, rfl, rfl⟩
  case round =>
    obtain ⟨j, hj, rfl, rfl, rfl⟩ := hrel
    have hbd := posTo_bd s.data.toList j
    by_cases hlt : j < k
    · have hjs : j < s.size := by omega
      by_cases hc : (s[j].toNat : Int) = 10
      · have hp := Lib.hid (posTo_yes _ _ (byte_ten s j hjs hc))
        have hcb : ((s[j].toNat : Int) == 10) = true := by simpa using hc
        clear hc
        go_wp2
        go_round
        case rel => exact ⟨j + 1, by omega, by rw [hp.out]; go_num, by rw [hp.out]; rfl, by go_num⟩
        case measure => simp [intOf]; omega
      · have hp := Lib.hid (posTo_no _ _ (byte_not_ten s j hjs hc))
        have hcb : ((s[j].toNat : Int) == 10) = false := by simpa using hc
        clear hc
        go_wp2
        go_round
        case rel => exact ⟨j + 1, by omega, by rw [hp.out], by rw [hp.out]; go_num, by go_num⟩
        case measure => simp [intOf]; omega
    · go_wp2
      go_ret2
      obtain rfl : j = k := by omega
      exact ⟨rfl, rfl⟩

set_option maxHeartbeats 400000 in
theorem refPosition_out (s : ByteArray) (k : Int) (w : World) (hs : s.size ≤ 1000000) (hk : k < 0 ∨ s.size < k) :
    Calls Try.prog 11 #[.string s, .int .i64 k] w fun e w' => e = .returned (.tuple #[.int .i64 0, .int .i64 0]) ∧ w = w' := by
  by_cases h0 : k < 0
  · go_enter Try.func11, Try.ntmps11
    go_wp2
    go_ret2
    exact ⟨rfl, rfl⟩
  · have h1 : (s.size : Int) < k := by omega
    go_enter Try.func11, Try.ntmps11
    go_wp2
    go_ret2
    exact ⟨rfl, rfl⟩

/-- what both return, for any number -/
def posAt (l : List UInt8) (k : Int) : Int × Int := if 0 ≤ k ∧ k ≤ l.length then (((posTo l k.toNat).1 : Int), ((posTo l k.toNat).2 : Int)) else (0, 0)

theorem posAt_in (s : ByteArray) (k : Nat) (hk : k ≤ s.size) : posAt s.data.toList k = (((posTo s.data.toList k).1 : Int), ((posTo s.data.toList k).2 : Int)) := by
  have hl : s.data.toList.length = s.size := by simp
  unfold posAt
  rw [if_pos (by rw [hl]; omega)]
  rfl
theorem posAt_out (s : ByteArray) (k : Int) (hk : k < 0 ∨ s.size < k) : posAt s.data.toList k = (0, 0) := by
  have hl : s.data.toList.length = s.size := by simp
  unfold posAt
  rw [if_neg (by rw [hl]; omega)]

theorem position_any (s : ByteArray) (k : Int) (w : World) (hs : s.size ≤ 1000000) :
    Calls Try.prog 10 #[.string s, .int .i64 k] w fun e w' => e = .returned (.tuple #[.int .i64 (posAt s.data.toList k).1, .int .i64 (posAt s.data.toList k).2]) ∧ w = w' := by
  by_cases h : 0 ≤ k ∧ k ≤ s.size
  · obtain ⟨n, rfl⟩ := Int.eq_ofNat_of_zero_le h.1
    have hn : n ≤ s.size := by omega
    rw [posAt_in s n hn]
    exact position_in s n w hs hn
  · have h' : k < 0 ∨ (s.size : Int) < k := by omega
    rw [posAt_out s k h']
    exact position_out s k w hs h'

theorem refPosition_any (s : ByteArray) (k : Int) (w : World) (hs : s.size ≤ 1000000) :
    Calls Try.prog 11 #[.string s, .int .i64 k] w fun e w' => e = .returned (.tuple #[.int .i64 (posAt s.data.toList k).1, .int .i64 (posAt s.data.toList k).2]) ∧ w = w' := by
  by_cases h : 0 ≤ k ∧ k ≤ s.size
  · obtain ⟨n, rfl⟩ := Int.eq_ofNat_of_zero_le h.1
    have hn : n ≤ s.size := by omega
    rw [posAt_in s n hn]
    exact refPosition_in s n w hs hn
  · have h' : k < 0 ∨ (s.size : Int) < k := by omega
    rw [posAt_out s k h']
    exact refPosition_out s k w hs h'
end Go.Proofs.Ytgihfnnffailiaa
