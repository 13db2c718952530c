/- What is proved: the reference's token returns what the plain function says. -/
import Derived.Test.YtoopnddlcofhoaaGreatDoorLxRefScan
set_option linter.unusedVariables false
namespace Go.Proofs.YtoopnddlcofhoaaGreatDoor.Lx
open Go.RowKit

theorem inName_eq (b : UInt8) : inName b = (letter b || digit b || ((b.toNat : Int) == 95)) := by
  unfold inName
  rw [u8_eq b 95]
  rfl

set_option maxHeartbeats 1000000 in
theorem r_token_word0 (s : ByteArray) (i : Nat) (kd m : Int) (w : World) (hs : s.size ≤ 1000000) (hi : i < s.size) (hl : letter s[i] = true) (hm : m = (run s.data.toList inName i : Int)) (hkd : kd = if isKw ((s.data.toList.take (run s.data.toList inName i)).drop i) then 1 else 0) :
    Calls Tryz.prog 20 #[.string s, .int .i64 (i : Int)] w fun e w' => e = .returned (.tuple #[.int .i64 kd, .int .i64 m]) ∧ Below w.heap.size w w' := by
  have hll : s.data.toList.length = s.size := by simp
  have HL := Lib.hid hll
  have H1 := Lib.hid (fun (k : Nat) (h : k < s.size) => r_letter_any s[k] w)
  have H2 := Lib.hid (fun (k : Nat) (h : k < s.size) => r_digit_any s[k] w)
  have H0 := Lib.hid (r_letter_any s[i] w)
  rw [hl] at H0
  have hi' : (i : Int) < (s.size : Int) := by omega
  have hbd := run_bd s.data.toList inName i (by omega)
  have HKW := Lib.hid (fun m => r_keyword_any (s.extract i m) w)
  rw [hll] at hbd
  have HT : Hid (∀ j : Nat, run s.data.toList inName i = j → isKw (s.extract i j).data.toList = true → kd = 1 ∧ m = (j : Int)) := by
    intro j hj hq
    rw [← slice_list, hj, hq] at hkd
    exact ⟨hkd, by rw [hm, hj]⟩
  have HF : Hid (∀ j : Nat, run s.data.toList inName i = j → isKw (s.extract i j).data.toList = false → kd = 0 ∧ m = (j : Int)) := by
    intro j hj hq
    rw [← slice_list, hj, hq] at hkd
    exact ⟨hkd, by rw [hm, hj]⟩
  clear hm hkd
  clear hl hll
  go_enter Tryz.func20, Tryz.ntmps20
  go_wp2_with (fail)
  refine H0.out.mono ?_
  rintro e w' ⟨rfl, rfl⟩
  go_wp2_with (fail)
  go_loop [6] (fun x => ∃ k : Nat, i ≤ k ∧ k ≤ s.size ∧ x = .int .i64 (k : Int) ∧ Hid (run s.data.toList inName i = run s.data.toList inName k)) (fun x => s.size - (intOf x).toNat)
  case atStart => exact ⟨i, Nat.le_refl _, by omega, rfl, rfl⟩
  case round =>
    obtain ⟨k, hik, hk, rfl, hr⟩ := hrel
    by_cases hlt : k < s.size
    · have hlt' : (k : Int) < (s.size : Int) := by omega
      have hat := at_get s k hlt
      have hll := HL.out
      have hnm := inName_eq s[k]
      have h1 := Lib.hid (H1.out k hlt)
      have h2 := Lib.hid (H2.out k hlt)
      cases c1 : letter s[k] with
      | true =>
        have HN := Lib.hid (hr.out.trans (run_next s.data.toList inName k (by omega) (by rw [hat, hnm, c1]; rfl)))
        rw [c1] at h1
        clear hat hll hnm c1
        go_wp2_with (fail)
        refine h1.out.mono ?_
        rintro e w' ⟨rfl, rfl⟩
        go_wp2_with (fail)
        exact ⟨⟨k + 1, by omega, by omega, by go_num, HN⟩, by simp [intOf]; omega⟩
      | false =>
        rw [c1] at h1
        cases c2 : digit s[k] with
        | true =>
          have HN := Lib.hid (hr.out.trans (run_next s.data.toList inName k (by omega) (by rw [hat, hnm, c1, c2]; rfl)))
          rw [c2] at h2
          clear hat hll hnm c1 c2
          go_wp2_with (fail)
          refine h1.out.mono ?_
          rintro e w' ⟨rfl, rfl⟩
          go_wp2_with (fail)
          refine h2.out.mono ?_
          rintro e w' ⟨rfl, rfl⟩
          go_wp2_with (fail)
          exact ⟨⟨k + 1, by omega, by omega, by go_num, HN⟩, by simp [intOf]; omega⟩
        | false =>
          rw [c2] at h2
          cases c3 : ((s[k].toNat : Int) == 95) with
          | true =>
            have HN := Lib.hid (hr.out.trans (run_next s.data.toList inName k (by omega) (by rw [hat, hnm, c1, c2, c3]; rfl)))
            clear hat hll hnm c1 c2
            go_wp2_with (fail)
            refine h1.out.mono ?_
            rintro e w' ⟨rfl, rfl⟩
            go_wp2_with (fail)
            refine h2.out.mono ?_
            rintro e w' ⟨rfl, rfl⟩
            go_wp2_with (fail)
            exact ⟨⟨k + 1, by omega, by omega, by go_num, HN⟩, by simp [intOf]; omega⟩
          | false =>
            have HN := Lib.hid (hr.out.trans (run_halt s.data.toList inName k (by rw [hat, hnm, c1, c2, c3]; rfl)))
            have hik' : (i : Int) ≤ (k : Int) := by omega
            have hk' : (k : Int) ≤ (s.size : Int) := by omega
            clear hat hll hnm c1 c2
            have hkw := Lib.hid (HKW.out k)
            cases hq : isKw (s.extract i k).data.toList with
            | true =>
              have HW := Lib.hid (HT.out k HN.out hq)
              rw [hq] at hkw
              clear hq
              go_wp2_with (fail)
              refine h1.out.mono ?_
              rintro e w' ⟨rfl, rfl⟩
              go_wp2_with (fail)
              refine h2.out.mono ?_
              rintro e w' ⟨rfl, rfl⟩
              go_wp2_with (fail)
              refine hkw.out.mono ?_
              rintro e w' ⟨rfl, hb⟩
              go_wp2_with (fail)
              go_ret2
              exact ⟨ret_tok HW.out.1.symm HW.out.2.symm, hb⟩
            | false =>
              have HW := Lib.hid (HF.out k HN.out hq)
              rw [hq] at hkw
              clear hq
              go_wp2_with (fail)
              refine h1.out.mono ?_
              rintro e w' ⟨rfl, rfl⟩
              go_wp2_with (fail)
              refine h2.out.mono ?_
              rintro e w' ⟨rfl, rfl⟩
              go_wp2_with (fail)
              refine hkw.out.mono ?_
              rintro e w' ⟨rfl, hb⟩
              go_wp2_with (fail)
              go_ret2
              exact ⟨ret_tok HW.out.1.symm HW.out.2.symm, hb⟩
    · have HN := Lib.hid (hr.out.trans (run_out s.data.toList inName k (by rw [HL.out]; exact hlt)))
      have hlt' : (s.size : Int) ≤ (k : Int) := by omega
      have hik' : (i : Int) ≤ (k : Int) := by omega
      have hk' : (k : Int) ≤ (s.size : Int) := by omega
      have hkw := Lib.hid (HKW.out k)
      cases hq : isKw (s.extract i k).data.toList with
      | true =>
        have HW := Lib.hid (HT.out k HN.out hq)
        rw [hq] at hkw
        clear hq
        go_wp2_with (fail)
        refine hkw.out.mono ?_
        rintro e w' ⟨rfl, hb⟩
        go_wp2_with (fail)
        go_ret2
        exact ⟨ret_tok HW.out.1.symm HW.out.2.symm, hb⟩
      | false =>
        have HW := Lib.hid (HF.out k HN.out hq)
        rw [hq] at hkw
        clear hq
        go_wp2_with (fail)
        refine hkw.out.mono ?_
        rintro e w' ⟨rfl, hb⟩
        go_wp2_with (fail)
        go_ret2
        exact ⟨ret_tok HW.out.1.symm HW.out.2.symm, hb⟩

theorem r_token_word (s : ByteArray) (i : Nat) (w : World) (hs : s.size ≤ 1000000) (hi : i < s.size) (hl : letter s[i] = true) :
    Calls Tryz.prog 20 #[.string s, .int .i64 (i : Int)] w fun e w' => e = .returned (.tuple #[.int .i64 (if isKw ((s.data.toList.take (run s.data.toList inName i)).drop i) then 1 else 0), .int .i64 (run s.data.toList inName i : Int)]) ∧ Below w.heap.size w w' :=
  r_token_word0 s i _ _ w hs hi hl rfl rfl

set_option maxHeartbeats 1000000 in
theorem r_token_number (s : ByteArray) (i : Nat) (w : World) (hs : s.size ≤ 1000000) (hi : i < s.size) (hl : letter s[i] = false) (hd : digit s[i] = true) :
    Calls Tryz.prog 20 #[.string s, .int .i64 (i : Int)] w fun e w' => e = .returned (.tuple #[.int .i64 2, .int .i64 (run s.data.toList digit i : Int)]) ∧ Below w.heap.size w w' := by
  have hll : s.data.toList.length = s.size := by simp
  have HL := Lib.hid hll
  have H2 := Lib.hid (fun (k : Nat) (h : k < s.size) => r_digit_any s[k] w)
  have H0 := Lib.hid (r_letter_any s[i] w)
  have H1 := Lib.hid (r_digit_any s[i] w)
  rw [hl] at H0
  rw [hd] at H1
  have hi' : (i : Int) < (s.size : Int) := by omega
  clear hl hll hd
  go_enter Tryz.func20, Tryz.ntmps20
  go_wp2_with (fail)
  refine H0.out.mono ?_
  rintro e w' ⟨rfl, rfl⟩
  go_wp2_with (fail)
  refine H1.out.mono ?_
  rintro e w' ⟨rfl, rfl⟩
  go_wp2_with (fail)
  go_loop [6] (fun x => ∃ k : Nat, i ≤ k ∧ k ≤ s.size ∧ x = .int .i64 (k : Int) ∧ Hid (run s.data.toList digit i = run s.data.toList digit k)) (fun x => s.size - (intOf x).toNat)
  case atStart => exact ⟨i, Nat.le_refl _, by omega, rfl, rfl⟩
  case round =>
    obtain ⟨k, hik, hk, rfl, hr⟩ := hrel
    by_cases hlt : k < s.size
    · have hlt' : (k : Int) < (s.size : Int) := by omega
      have hat := at_get s k hlt
      have hll := HL.out
      have h2 := Lib.hid (H2.out k hlt)
      cases c2 : digit s[k] with
      | true =>
        have HN := Lib.hid (hr.out.trans (run_next s.data.toList digit k (by omega) (by rw [hat, c2])))
        rw [c2] at h2
        clear hat hll c2
        go_wp2_with (fail)
        refine h2.out.mono ?_
        rintro e w' ⟨rfl, rfl⟩
        go_wp2_with (fail)
        exact ⟨⟨k + 1, by omega, by omega, by go_num, HN⟩, by simp [intOf]; omega⟩
      | false =>
        have HN := Lib.hid (hr.out.trans (run_halt s.data.toList digit k (by rw [hat, c2])))
        rw [c2] at h2
        clear hat hll c2
        go_wp2_with (fail)
        refine h2.out.mono ?_
        rintro e w' ⟨rfl, rfl⟩
        go_wp2_with (fail)
        go_ret2
        exact ⟨ret_tok rfl (by rw [HN.out]), Below.refl _ _⟩
    · have HN := Lib.hid (hr.out.trans (run_out s.data.toList digit k (by rw [HL.out]; exact hlt)))
      have hlt' : (s.size : Int) ≤ (k : Int) := by omega
      go_wp2_with (fail)
      go_ret2
      exact ⟨ret_tok rfl (by rw [HN.out]), Below.refl _ _⟩
end Go.Proofs.YtoopnddlcofhoaaGreatDoor.Lx
