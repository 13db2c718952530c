/- What is proved: the reference's token returns what the plain function says (symbols and wrong bytes). -/
import Derived.Test.YtoopnddlcofhoaaGreatDoorLxRefTok
set_option linter.unusedVariables false
namespace Go.Proofs.YtoopnddlcofhoaaGreatDoor.Lx
open Go.RowKit

theorem wrongTo_next (l : List UInt8) (i : Nat) (hi : i < l.length) (h : wrongAt l i = true) : wrongTo l i = wrongTo l (i + 1) := whl_yes _ _ _ hi h
theorem wrongTo_halt (l : List UInt8) (i : Nat) (h : wrongAt l i = false) : wrongTo l i = i := whl_no _ _ _ h
theorem wrongTo_out (l : List UInt8) (i : Nat) (h : ¬ i < l.length) : wrongTo l i = i := whl_end _ _ _ h
theorem wrongAt_eq (s : ByteArray) (i : Nat) (hi : i < s.size) : wrongAt s.data.toList i = (!white s[i] && !((s[i].toNat : Int) == 35) && !beginsAt s.data.toList i) := by
  unfold wrongAt beginsAt
  rw [at_get s i hi]
  have h35 : (s[i] != 35) = !((s[i].toNat : Int) == 35) := by
    unfold bne
    rw [u8_eq s[i] 35]
    rfl
  rw [h35]
  have h0 : (sym s.data.toList i == 0) = !decide (0 < sym s.data.toList i) := by
    rw [Bool.eq_iff_iff]
    simp
  rw [h0]
  cases white s[i] <;> cases ((s[i].toNat : Int) == 35) <;> cases letter s[i] <;> cases digit s[i] <;> cases decide (0 < sym s.data.toList i) <;> rfl

set_option maxHeartbeats 1000000 in
theorem r_token_sym (s : ByteArray) (i : Nat) (w : World) (hs : s.size ≤ 1000000) (hi : i < s.size) (hl : letter s[i] = false) (hd : digit s[i] = false) (hy : 0 < sym s.data.toList i) :
    Calls Tryz.prog 20 #[.string s, .int .i64 (i : Int)] w fun e w' => e = .returned (.tuple #[.int .i64 3, .int .i64 ((i + sym s.data.toList i : Nat) : Int)]) ∧ Below w.heap.size w w' := by
  have H0 := Lib.hid (r_letter_any s[i] w)
  have H1 := Lib.hid (r_digit_any s[i] w)
  have HS := Lib.hid (fun w => r_symbol_any s i w hs hi)
  rw [hl] at H0
  rw [hd] at H1
  have hi' : (i : Int) < (s.size : Int) := by omega
  have hsy : sym s.data.toList i ≤ 2 := by unfold sym; split <;> (try split) <;> omega
  generalize sym s.data.toList i = y at *
  have hy' : (0 : Int) < (y : Int) := by omega
  clear hl hd
  go_enter Tryz.func20, Tryz.ntmps20
  go_wp2_with (fail)
  refine H0.out.mono ?_
  rintro e w' ⟨rfl, rfl⟩
  go_wp2_with (fail)
  refine H1.out.mono ?_
  rintro e w' ⟨rfl, rfl⟩
  go_wp2_with (fail)
  refine (HS.out _).mono ?_
  rintro e w1 ⟨rfl, hb1⟩
  have B1 := Lib.hid hb1
  have z1 := hb1.size
  clear hb1
  go_wp2_with (fail)
  refine (HS.out _).mono ?_
  rintro e w2 ⟨rfl, hb2⟩
  have B2 := Lib.hid (B1.out.trans (hb2.mono z1))
  clear hb2
  go_wp2_with (fail)
  go_ret2
  exact ⟨ret_tok rfl (by omega), B2.out⟩

set_option maxHeartbeats 1000000 in
theorem r_token_wrong (s : ByteArray) (i : Nat) (w : World) (hs : s.size ≤ 1000000) (hi : i < s.size) (hl : letter s[i] = false) (hd : digit s[i] = false) (hy : ¬ 0 < sym s.data.toList i) :
    Calls Tryz.prog 20 #[.string s, .int .i64 (i : Int)] w fun e w' => e = .returned (.tuple #[.int .i64 4, .int .i64 (wrongTo s.data.toList i : Int)]) ∧ Below w.heap.size w w' := by
  have hll : s.data.toList.length = s.size := by simp
  have HL := Lib.hid hll
  have H0 := Lib.hid (r_letter_any s[i] w)
  have H1 := Lib.hid (r_digit_any s[i] w)
  have HS := Lib.hid (fun w => r_symbol_any s i w hs hi)
  have HW := Lib.hid (fun (k : Nat) (h : k < s.size) (w : World) => r_blank_any s[k] w)
  have HB := Lib.hid (fun (k : Nat) (h : k < s.size) (w : World) => r_begins_any s k w hs h)
  rw [hl] at H0
  rw [hd] at H1
  have hi' : (i : Int) < (s.size : Int) := by omega
  generalize sym s.data.toList i = y at *
  have hy' : (y : Int) ≤ 0 := by omega
  clear hl hd hll
  go_enter Tryz.func20, Tryz.ntmps20
  go_wp2_with (fail)
  refine H0.out.mono ?_
  rintro e w' ⟨rfl, rfl⟩
  go_wp2_with (fail)
  refine H1.out.mono ?_
  rintro e w' ⟨rfl, rfl⟩
  go_wp2_with (fail)
  refine (HS.out _).mono ?_
  rintro e w1 ⟨rfl, hb1⟩
  have B1 := Lib.hid hb1
  clear hb1
  go_wp2_with (fail)
  go_loopw [6] (fun x wr => ∃ k : Nat, i ≤ k ∧ k ≤ s.size ∧ x = .int .i64 (k : Int) ∧ Hid (wrongTo s.data.toList i = wrongTo s.data.toList k) ∧ Hid (Below w.heap.size w wr)) (fun x _ => s.size - (intOf x).toNat)
  case atStart => exact ⟨i, Nat.le_refl _, by omega, rfl, rfl, B1⟩
  case round =>
    obtain ⟨k, hik, hk, rfl, hr, hbw⟩ := hrel
    by_cases hlt : k < s.size
    · have hlt' : (k : Int) < (s.size : Int) := by omega
      have hll := HL.out
      have hwe := wrongAt_eq s k hlt
      have hw := Lib.hid (HW.out k hlt wr)
      have hbz := hbw.out.size
      cases c1 : white s[k] with
      | true =>
        have HN := Lib.hid (hr.out.trans (wrongTo_halt s.data.toList k (by rw [hwe, c1]; rfl)))
        rw [c1] at hw
        clear hll hwe c1
        go_wp2_with (fail)
        refine hw.out.mono ?_
        rintro e w' ⟨rfl, rfl⟩
        go_wp2_with (fail)
        go_ret2
        exact ⟨ret_tok rfl (by rw [HN.out]), hbw.out⟩
      | false =>
        rw [c1] at hw
        cases c2 : ((s[k].toNat : Int) == 35) with
        | true =>
          have HN := Lib.hid (hr.out.trans (wrongTo_halt s.data.toList k (by rw [hwe, c1, c2]; rfl)))
          have c2' : ((s[k].toNat : Int) != 35) = false := by unfold bne; rw [c2]; rfl
          clear hll hwe c1
          go_wp2_with (fail)
          refine hw.out.mono ?_
          rintro e w' ⟨rfl, rfl⟩
          go_wp2_with (fail)
          go_ret2
          exact ⟨ret_tok rfl (by rw [HN.out]), hbw.out⟩
        | false =>
          have c2' : ((s[k].toNat : Int) != 35) = true := by unfold bne; rw [c2]; rfl
          have hbg := Lib.hid (HB.out k hlt wr)
          cases c3 : beginsAt s.data.toList k with
          | true =>
            have HN := Lib.hid (hr.out.trans (wrongTo_halt s.data.toList k (by rw [hwe, c1, c2, c3]; rfl)))
            rw [c3] at hbg
            clear hll hwe c1 c3
            go_wp2_with (fail)
            refine hw.out.mono ?_
            rintro e w' ⟨rfl, rfl⟩
            go_wp2_with (fail)
            refine hbg.out.mono ?_
            rintro e w2 ⟨rfl, hb2⟩
            have B2 := Lib.hid (hbw.out.trans (hb2.mono hbz))
            clear hb2
            go_wp2_with (fail)
            go_ret2
            exact ⟨ret_tok rfl (by rw [HN.out]), B2.out⟩
          | false =>
            have HN := Lib.hid (hr.out.trans (wrongTo_next s.data.toList k (by omega) (by rw [hwe, c1, c2, c3]; rfl)))
            rw [c3] at hbg
            clear hll hwe c1 c3
            go_wp2_with (fail)
            refine hw.out.mono ?_
            rintro e w' ⟨rfl, rfl⟩
            go_wp2_with (fail)
            refine hbg.out.mono ?_
            rintro e w2 ⟨rfl, hb2⟩
            have B2 := Lib.hid (hbw.out.trans (hb2.mono hbz))
            clear hb2
            go_wp2_with (fail)
            exact ⟨⟨k + 1, by omega, by omega, by go_num, HN, B2⟩, by simp [intOf]; omega⟩
    · have HN := Lib.hid (hr.out.trans (wrongTo_out s.data.toList k (by rw [HL.out]; exact hlt)))
      have hlt' : (s.size : Int) ≤ (k : Int) := by omega
      go_wp2_with (fail)
      go_ret2
      exact ⟨ret_tok rfl (by rw [HN.out]), hbw.out⟩

theorem r_token_any (s : ByteArray) (i : Nat) (w : World) (hs : s.size ≤ 1000000) (hi : i < s.size) :
    Calls Tryz.prog 20 #[.string s, .int .i64 (i : Int)] w fun e w' => e = .returned (.tuple #[.int .i64 ((tokAt s.data.toList i).1 : Int), .int .i64 ((tokAt s.data.toList i).2 : Int)]) ∧ Below w.heap.size w w' := by
  have hl : s.data.toList.length = s.size := by simp
  unfold tokAt
  rw [hl, if_neg (by omega), at_get s i hi]
  cases h1 : letter s[i] with
  | true =>
    rw [if_pos rfl]
    refine (r_token_word s i w hs hi h1).mono ?_
    rintro e w' ⟨rfl, hb⟩
    refine ⟨ret_tok ?_ rfl, hb⟩
    split <;> rfl
  | false =>
    rw [if_neg (by simp)]
    cases h2 : digit s[i] with
    | true =>
      rw [if_pos rfl]
      exact r_token_number s i w hs hi h1 h2
    | false =>
      rw [if_neg (by simp)]
      by_cases hy : 0 < sym s.data.toList i
      · rw [if_pos hy]
        exact r_token_sym s i w hs hi h1 h2 hy
      · rw [if_neg hy]
        exact r_token_wrong s i w hs hi h1 h2 hy
end Go.Proofs.YtoopnddlcofhoaaGreatDoor.Lx
