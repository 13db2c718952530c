/- What is proved: the reference's Number and Name return what the plain functions say. -/
import Derived.Test.YtlaiahiphghggaaLxRefTok2
set_option linter.unusedVariables false
namespace Go.Proofs.Ytlaiahiphghggaa.Lx
open Go.RowKit

set_option maxHeartbeats 1000000 in
theorem r_number_any (s : ByteArray) (w : World) :
    Calls Try.prog 95 #[.string s] w fun e w' => e = .returned (.tuple #[.int .i64 (numV s : Int), .bool (numOk s)]) ∧ w = w' := by
  by_cases hsz : s.size < 1 ∨ 9 < s.size
  · have h1 := numOk_len s hsz
    have h2 := numV_no s h1
    have HV := Lib.hid (And.intro h1 h2)
    clear h1 h2
    rcases hsz with h | h
    · go_enter Try.func95, Try.ntmps95
      go_wp2_with (fail)
      go_ret2
      exact ⟨ret_num (by rw [HV.out.2]; rfl) HV.out.1.symm, rfl⟩
    · go_enter Try.func95, Try.ntmps95
      go_wp2_with (fail)
      go_ret2
      exact ⟨ret_num (by rw [HV.out.2]; rfl) HV.out.1.symm, rfl⟩
  · have hll : s.data.toList.length = s.size := by simp
    have HL := Lib.hid hll
    have hs1 : 1 ≤ s.size := by omega
    have hs9 : s.size ≤ 9 := by omega
    have HD := Lib.hid (fun (k : Nat) (h : k < s.size) => r_digit_any s[k] w)
    have HS := Lib.hid (fun n => numOk_some s n hs1 hs9)
    have HN := Lib.hid (numOk_none s)
    clear hsz hll
    go_enter Try.func95, Try.ntmps95
    go_wp2_with (fail)
    go_loop [4, 5] (fun x i => ∃ k n : Nat, k ≤ s.size ∧ i = .int .i64 (k : Int) ∧ x = .int .i64 (n : Int) ∧ Hid (n < 10 ^ k) ∧ Hid (num s.data.toList 0 = num (s.data.toList.drop k) n)) (fun _ i => s.size - (intOf i).toNat)
    case atStart => exact ⟨0, 0, Nat.zero_le _, rfl, rfl, by show 0 < 10 ^ 0; decide, rfl⟩
    case round =>
      obtain ⟨k, n, hk, rfl, rfl, hp, hq⟩ := hrel
      by_cases hlt : k < s.size
      · have hlt' : (k : Int) < (s.size : Int) := by omega
        have hll := HL.out
        have hget : s.data.toList[k]'(by omega) = s[k] := rfl
        have hd := Lib.hid (HD.out k hlt)
        have hn := pow_small n k hp.out (by omega)
        cases c : digit s[k] with
        | true =>
          have hb := digit_bd s[k] c
          have HP := Lib.hid (pow_step n k (s[k].toNat - 48) hp.out (by omega))
          have HQ := Lib.hid (hq.out.trans (num_step s.data.toList k n (by omega) (by rw [hget]; exact c)))
          rw [hget] at HQ
          rw [c] at hd
          clear c hget hll
          obtain ⟨d, hdd⟩ : ∃ d, d = s[k].toNat - 48 := ⟨_, rfl⟩
          rw [← hdd] at HP HQ
          have e1 : (s[k].toNat : Int) - 48 = (d : Int) := by omega
          have e2 : d ≤ 9 := by omega
          clear hdd
          go_wp2_with (fail)
          refine hd.out.mono ?_
          rintro e w' ⟨rfl, rfl⟩
          go_wp2_with (fail)
          exact ⟨⟨k + 1, 10 * n + d, by omega, by go_num, by go_num, HP, HQ⟩, by simp [intOf]; omega⟩
        | false =>
          have h1 := HN.out (hq.out.trans (num_halt s.data.toList k n (by omega) (by rw [hget]; exact c)))
          have HV := Lib.hid (And.intro h1 (numV_no s h1))
          rw [c] at hd
          clear c hget hll h1
          go_wp2_with (fail)
          refine hd.out.mono ?_
          rintro e w' ⟨rfl, rfl⟩
          go_wp2_with (fail)
          go_ret2
          exact ⟨ret_num (by rw [HV.out.2]; rfl) HV.out.1.symm, rfl⟩
      · have HV := Lib.hid (HS.out n (hq.out.trans (num_end s.data.toList k n (by rw [HL.out]; exact hlt))))
        have hlt' : (s.size : Int) ≤ (k : Int) := by omega
        go_wp2_with (fail)
        go_ret2
        exact ⟨ret_num (by rw [HV.out.2]) HV.out.1.symm, rfl⟩
set_option maxHeartbeats 1000000 in
theorem r_name_any (s : ByteArray) (w : World) :
    Calls Try.prog 77 #[.string s] w fun e w' => e = .returned (.bool (nameB s.data.toList)) ∧ Below w.heap.size w w' := by
  have hll : s.data.toList.length = s.size := by simp
  have hv : nameB s.data.toList = (decide (1 ≤ s.size) && decide (s.size ≤ 16) && letter (at_ s.data.toList 0) && !isKw s.data.toList && (tokAt s.data.toList 0).2 == s.size) := by unfold nameB; rw [hll]
  by_cases h1 : s.size < 1
  · rw [show decide (1 ≤ s.size) = false from decide_eq_false (by omega)] at hv
    have HV := Lib.hid hv
    clear hv hll
    go_enter Try.func77, Try.ntmps77
    go_wp2_with (fail)
    go_ret
    exact ⟨ret_bool (by rw [HV.out]; rfl), Below.refl _ _⟩
  · by_cases h2 : 16 < s.size
    · rw [show decide (s.size ≤ 16) = false from decide_eq_false (by omega)] at hv
      have HV := Lib.hid hv
      clear hv hll
      go_enter Try.func77, Try.ntmps77
      go_wp2_with (fail)
      go_ret
      exact ⟨ret_bool (by rw [HV.out]; simp), Below.refl _ _⟩
    · rw [show decide (1 ≤ s.size) = true from decide_eq_true (by omega), show decide (s.size ≤ 16) = true from decide_eq_true (by omega), at_get s 0 (by omega)] at hv
      have h0 : 0 < s.size := by omega
      have HL := Lib.hid (r_letter_any s[0] w)
      have HK := Lib.hid (r_keyword_any s w)
      have HT := Lib.hid (fun w => r_token_any s 0 w (by omega) h0)
      clear hll
      have hte : ((tokAt s.data.toList 0).2 == s.size) = ((((tokAt s.data.toList 0).2 : Nat) : Int) == (s.size : Int)) := by
        rw [Bool.eq_iff_iff, beq_iff_eq, beq_iff_eq]
        omega
      rw [hte] at hv
      generalize nameB s.data.toList = z at *
      generalize tokAt s.data.toList 0 = tk at *
      generalize isKw s.data.toList = q at *
      generalize hc : letter s[0] = c at *
      have HV := Lib.hid hv
      clear hv hte hc
      cases c with
      | false =>
        go_enter Try.func77, Try.ntmps77
        go_wp2_with (fail)
        refine HL.out.mono ?_
        rintro e w' ⟨rfl, rfl⟩
        go_wp2_with (fail)
        go_ret
        exact ⟨ret_bool (by rw [HV.out]; rfl), Below.refl _ _⟩
      | true =>
        cases q with
        | true =>
          go_enter Try.func77, Try.ntmps77
          go_wp2_with (fail)
          refine HL.out.mono ?_
          rintro e w' ⟨rfl, rfl⟩
          go_wp2_with (fail)
          refine HK.out.mono ?_
          rintro e w1 ⟨rfl, hb⟩
          go_wp2_with (fail)
          go_ret
          exact ⟨ret_bool (by rw [HV.out]; rfl), hb⟩
        | false =>
          go_enter Try.func77, Try.ntmps77
          go_wp2_with (fail)
          refine HL.out.mono ?_
          rintro e w' ⟨rfl, rfl⟩
          go_wp2_with (fail)
          refine HK.out.mono ?_
          rintro e w1 ⟨rfl, hb⟩
          have B1 := Lib.hid hb
          have z1 := hb.size
          clear hb
          go_wp2_with (fail)
          refine (HT.out _).mono ?_
          rintro e w2 ⟨rfl, hb⟩
          have B2 := Lib.hid (B1.out.trans (hb.mono z1))
          clear hb
          go_wp2_with (fail)
          go_ret
          exact ⟨ret_bool (by rw [HV.out]; rfl), B2.out⟩
end Go.Proofs.Ytlaiahiphghggaa.Lx
