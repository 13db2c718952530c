/- What is proved: Number of the lexer returns what the plain function says. -/
import Derived.Test.YtoopnddlcofhoaaGreatDoorLxTokPlain
set_option linter.unusedVariables false
namespace Go.Proofs.YtoopnddlcofhoaaGreatDoor.Lx
open Go.RowKit

/-- the number that digits are, behind a number -/
def num : List UInt8 → Nat → Option Nat
  | [], n => some n
  | b :: bs, n => if digit b then num bs (10 * n + (b.toNat - 48)) else none
def numOk (s : ByteArray) : Bool := decide (1 ≤ s.size) && decide (s.size ≤ 9) && (num s.data.toList 0).isSome
def numV (s : ByteArray) : Nat := if numOk s then (num s.data.toList 0).getD 0 else 0
theorem num_cons (b : UInt8) (bs : List UInt8) (n : Nat) : num (b :: bs) n = if digit b then num bs (10 * n + (b.toNat - 48)) else none := rfl
theorem num_step (l : List UInt8) (k n : Nat) (hk : k < l.length) (h : digit l[k] = true) : num (l.drop k) n = num (l.drop (k + 1)) (10 * n + (l[k].toNat - 48)) := by
  rw [List.drop_eq_getElem_cons hk, num_cons, if_pos h]
theorem num_halt (l : List UInt8) (k n : Nat) (hk : k < l.length) (h : digit l[k] = false) : num (l.drop k) n = none := by
  rw [List.drop_eq_getElem_cons hk, num_cons, h]
  rfl
theorem num_end (l : List UInt8) (k n : Nat) (hk : ¬ k < l.length) : num (l.drop k) n = some n := by
  rw [List.drop_of_length_le (by omega)]
  rfl
theorem digit_bd (b : UInt8) (h : digit b = true) : 48 ≤ b.toNat ∧ b.toNat ≤ 57 := by
  unfold digit at h
  simpa using h
theorem pow_step (n k d : Nat) (h : n < 10 ^ k) (hd : d ≤ 9) : 10 * n + d < 10 ^ (k + 1) := by
  rw [Nat.pow_succ]
  omega
theorem pow_small (n k : Nat) (h : n < 10 ^ k) (hk : k ≤ 9) : n < 1000000000 := by
  have : 10 ^ k ≤ 10 ^ 9 := Nat.pow_le_pow_right (by omega) hk
  have e : 10 ^ 9 = 1000000000 := by decide
  omega
theorem ret_num {a b : Int} {x y : Bool} (h1 : a = b) (h2 : x = y) : Ending.returned (.tuple #[.int .i64 a, .bool x]) = .returned (.tuple #[.int .i64 b, .bool y]) := by rw [h1, h2]
theorem numOk_len (s : ByteArray) (h : s.size < 1 ∨ 9 < s.size) : numOk s = false := by
  unfold numOk
  rcases h with h | h
  · rw [show decide (1 ≤ s.size) = false from decide_eq_false (by omega)]
    rfl
  · rw [show decide (s.size ≤ 9) = false from decide_eq_false (by omega)]
    simp
theorem numOk_some (s : ByteArray) (n : Nat) (h1 : 1 ≤ s.size) (h2 : s.size ≤ 9) (h : num s.data.toList 0 = some n) : numOk s = true ∧ numV s = n := by
  have a : numOk s = true := by
    unfold numOk
    rw [h]
    simp [h1, h2]
  exact ⟨a, by unfold numV; rw [a, h]; rfl⟩
theorem numOk_none (s : ByteArray) (h : num s.data.toList 0 = none) : numOk s = false := by
  unfold numOk
  rw [h]
  simp
theorem numV_no (s : ByteArray) (h : numOk s = false) : numV s = 0 := by unfold numV; rw [h]; rfl

set_option maxHeartbeats 1000000 in
theorem number_any (s : ByteArray) (w : World) :
    Calls Tryz.prog 77 #[.string s] w fun e w' => e = .returned (.tuple #[.int .i64 (numV s : Int), .bool (numOk s)]) ∧ w = w' := by
  by_cases hsz : s.size < 1 ∨ 9 < s.size
  · have h1 := numOk_len s hsz
    have h2 := numV_no s h1
    have HV := Lib.hid (And.intro h1 h2)
    clear h1 h2
    rcases hsz with h | h
    · go_enter Tryz.func77, Tryz.ntmps77
      go_wp2_with (fail)
      go_ret2
      exact ⟨ret_num (by rw [HV.out.2]; rfl) HV.out.1.symm, rfl⟩
    · go_enter Tryz.func77, Tryz.ntmps77
      go_wp2_with (fail)
      go_ret2
      exact ⟨ret_num (by rw [HV.out.2]; rfl) HV.out.1.symm, rfl⟩
  · have hll : s.data.toList.length = s.size := by simp
    have HL := Lib.hid hll
    have hs1 : 1 ≤ s.size := by omega
    have hs9 : s.size ≤ 9 := by omega
    have HD := Lib.hid (fun (k : Nat) (h : k < s.size) => digit_any s[k] w)
    have HS := Lib.hid (fun n => numOk_some s n hs1 hs9)
    have HN := Lib.hid (numOk_none s)
    clear hsz hll
    go_enter Tryz.func77, Tryz.ntmps77
    go_wp2_with (fail)
    go_loop [4, 5] (fun x i => ∃ k n : Nat, k ≤ s.size ∧ i = .int .i64 (k : Int) ∧ x = .int .i64 (n : Int) ∧ Hid (n < 10 ^ k) ∧ Hid (num s.data.toList 0 = num (s.data.toList.drop k) n)) (fun _ i => s.size - (intOf i).toNat)
    case atStart => exact ⟨0, 0, Nat.zero_le _, rfl, rfl, by show 0 < 10 ^ 0; decide, rfl⟩
    case round =>
      obtain ⟨k, n, hk, rfl, rfl, hp, hq⟩ := hrel
      by_cases hlt : k < s.size
      · have hlt' : (k : Int) < (s.size : Int) := by omega
        have hll := HL.out
        have hget : s.data.toList[k]'(by omega) = s[k] := rfl
        have hd := Lib.hid (HD.out k hlt)
        have hn := pow_small n k hp.out (by omega)
        cases c : digit s[k] with
        | true =>
          have hb := digit_bd s[k] c
          have HP := Lib.hid (pow_step n k (s[k].toNat - 48) hp.out (by omega))
          have HQ := Lib.hid (hq.out.trans (num_step s.data.toList k n (by omega) (by rw [hget]; exact c)))
          rw [hget] at HQ
          rw [c] at hd
          clear c hget hll
          obtain ⟨d, hdd⟩ : ∃ d, d = s[k].toNat - 48 := ⟨_, rfl⟩
          rw [← hdd] at HP HQ
          have e1 : (s[k].toNat : Int) - 48 = (d : Int) := by omega
          have e2 : d ≤ 9 := by omega
          clear hdd
          go_wp2_with (fail)
          refine hd.out.mono ?_
          rintro e w' ⟨rfl, rfl⟩
          go_wp2_with (fail)
          exact ⟨⟨k + 1, 10 * n + d, by omega, by go_num, by go_num, HP, HQ⟩, by simp [intOf]; omega⟩
        | false =>
          have h1 := HN.out (hq.out.trans (num_halt s.data.toList k n (by omega) (by rw [hget]; exact c)))
          have HV := Lib.hid (And.intro h1 (numV_no s h1))
          rw [c] at hd
          clear c hget hll h1
          go_wp2_with (fail)
          refine hd.out.mono ?_
          rintro e w' ⟨rfl, rfl⟩
          go_wp2_with (fail)
          go_ret2
          exact ⟨ret_num (by rw [HV.out.2]; rfl) HV.out.1.symm, rfl⟩
      · have HV := Lib.hid (HS.out n (hq.out.trans (num_end s.data.toList k n (by rw [HL.out]; exact hlt))))
        have hlt' : (s.size : Int) ≤ (k : Int) := by omega
        go_wp2_with (fail)
        go_ret2
        exact ⟨ret_num (by rw [HV.out.2]) HV.out.1.symm, rfl⟩

end Go.Proofs.YtoopnddlcofhoaaGreatDoor.Lx
