/- What is proved: Name and Space (the program's and the reference's) return what the plain functions say. -/
import Derived.Test.YtgihfnnffailiabNumber
set_option linter.unusedVariables false
namespace Go.Proofs.Ytgihfnnffailiab
open Go.RowKit

def nameB (l : List UInt8) : Bool := decide (1 ≤ l.length) && decide (l.length ≤ 16) && letter (at_ l 0) && !isKw l && (tokAt l 0).2 == l.length

theorem letter_not (b : UInt8) (h : letter b = true) : white b = false ∧ b ≠ 35 := by
  unfold letter at h
  simp at h
  constructor
  · cases hw : white b with
    | false => rfl
    | true =>
      rw [white_eq] at hw
      simp at hw
      omega
  · rintro rfl
    have : (35 : UInt8).toNat = 35 := rfl
    omega
theorem letter_out (l : List UInt8) (h : letter (at_ l 0) = true) : 0 < l.length := by
  cases l with
  | nil => exact absurd h (by decide)
  | cons b bs => simp

theorem name_eq (l : List UInt8) : nameB l = (decide (l.length ≤ 16) && ((nextTok l 0).kind == 0 && covB (nextTok l 0) 0 l.length)) := by
  unfold nameB covB nextTok
  simp only
  rw [Bool.eq_iff_iff]
  simp only [Bool.and_eq_true, decide_eq_true_eq, beq_iff_eq, Bool.not_eq_true']
  constructor
  · rintro ⟨⟨⟨⟨h1, h2⟩, h3⟩, h4⟩, h5⟩
    have hb : blank l 0 = 0 := blank_none l 0 (by omega) (letter_not _ h3).1 (letter_not _ h3).2
    rw [hb]
    refine ⟨h2, ?_, ⟨by omega, rfl⟩, by omega⟩
    unfold tokAt at h5 ⊢
    rw [if_neg (by omega), if_pos h3] at h5 ⊢
    simp only at h5 ⊢
    rw [h5, List.take_length, List.drop_zero, h4]
    rfl
  · rintro ⟨h1, h2, ⟨h3, h4⟩, h5⟩
    have hb : blank l 0 = 0 := by omega
    rw [hb] at h2 h5
    have hlt : 0 < l.length := by omega
    have hle : letter (at_ l 0) = true := by
      cases hc : letter (at_ l 0) with
      | true => rfl
      | false =>
        unfold tokAt at h2
        rw [if_neg (by omega), hc, if_neg (by simp)] at h2
        split at h2
        · simp at h2
        · split at h2 <;> simp at h2
    refine ⟨⟨⟨⟨by omega, h1⟩, hle⟩, ?_⟩, by omega⟩
    unfold tokAt at h2 h5
    rw [if_neg (by omega), if_pos hle] at h2 h5
    simp only at h2 h5
    have e : run l inName 0 = l.length := by omega
    rw [e, List.take_length, List.drop_zero] at h2
    cases hk : isKw l with
    | false => rfl
    | true => rw [hk] at h2; simp at h2

set_option maxHeartbeats 1000000 in
theorem name_any (s : ByteArray) (w : World) :
    Calls Try.prog 22 #[.string s] w fun e w' => e = .returned (.bool (nameB s.data.toList)) ∧ Below w.heap.size w w' := by
  have hll : s.data.toList.length = s.size := by simp
  have hv := name_eq s.data.toList
  rw [hll] at hv
  by_cases hs : 16 < s.size
  · rw [show decide (s.size ≤ 16) = false from decide_eq_false (by omega)] at hv
    have HV := Lib.hid hv
    clear hv hll
    go_enter Try.func22, Try.ntmps22
    go_wp2_with (fail)
    go_ret
    exact ⟨ret_bool (by rw [HV.out]; rfl), Below.refl _ _⟩
  · rw [show decide (s.size ≤ 16) = true from decide_eq_true (by omega)] at hv
    have HN := Lib.hid (newScanner_any s w)
    have HX := Lib.hid (fun g b wr h => next_any s g b 0 wr (by omega) (Nat.zero_le _) h)
    generalize nextTok s.data.toList 0 = t at *
    have HC := Lib.hid (fun w => covers_any t 0 s.size w)
    unfold tokV at HX HC
    generalize nameB s.data.toList = z at *
    generalize covB t 0 s.size = y at *
    have HV := Lib.hid hv
    clear hv hll
    go_enter Try.func22, Try.ntmps22
    go_wp2_with (fail)
    refine HN.out.mono ?_
    rintro e w1 ⟨g, k, rfl, hsc, hge, hb1⟩
    have S1 := Lib.hid hsc
    have z1 := hb1.size
    have B1 := Lib.hid hb1
    clear hsc hb1
    go_wp2_with (fail)
    refine (HX.out g k w1 S1.out).mono ?_
    rintro e w2 ⟨rfl, hsc, hg⟩
    have hb2 := B1.out.grown hg z1 (fun k hk => by injection hk with hk; omega)
    have z2 := hb2.size
    have B2 := Lib.hid (hb2.alloc z2 (.cells #[.int .i64 t.kind, .int .i64 t.lo, .int .i64 t.at_, .int .i64 t.hi] 39))
    clear hsc hg hb2
    cases hk : (t.kind == 0) with
    | false =>
      rw [hk] at HV
      go_wp2_with (fail)
      go_ret
      exact ⟨ret_bool (by rw [HV.out]; rfl), B2.out⟩
    | true =>
      rw [hk] at HV
      go_wp2_with (fail)
      refine (HC.out _).mono ?_
      rintro e w3 ⟨rfl, hb3⟩
      have B3 := Lib.hid (B2.out.trans (hb3.mono (by simp; omega)))
      clear hb3
      go_wp2_with (fail)
      go_ret
      exact ⟨ret_bool (by rw [HV.out]; rfl), B3.out⟩

set_option maxHeartbeats 1000000 in
theorem r_name_any (s : ByteArray) (w : World) :
    Calls Try.prog 23 #[.string s] w fun e w' => e = .returned (.bool (nameB s.data.toList)) ∧ Below w.heap.size w w' := by
  have hll : s.data.toList.length = s.size := by simp
  have hv : nameB s.data.toList = (decide (1 ≤ s.size) && decide (s.size ≤ 16) && letter (at_ s.data.toList 0) && !isKw s.data.toList && (tokAt s.data.toList 0).2 == s.size) := by unfold nameB; rw [hll]
  by_cases h1 : s.size < 1
  · rw [show decide (1 ≤ s.size) = false from decide_eq_false (by omega)] at hv
    have HV := Lib.hid hv
    clear hv hll
    go_enter Try.func23, Try.ntmps23
    go_wp2_with (fail)
    go_ret
    exact ⟨ret_bool (by rw [HV.out]; rfl), Below.refl _ _⟩
  · by_cases h2 : 16 < s.size
    · rw [show decide (s.size ≤ 16) = false from decide_eq_false (by omega)] at hv
      have HV := Lib.hid hv
      clear hv hll
      go_enter Try.func23, Try.ntmps23
      go_wp2_with (fail)
      go_ret
      exact ⟨ret_bool (by rw [HV.out]; simp), Below.refl _ _⟩
    · rw [show decide (1 ≤ s.size) = true from decide_eq_true (by omega), show decide (s.size ≤ 16) = true from decide_eq_true (by omega), at_get s 0 (by omega)] at hv
      have h0 : 0 < s.size := by omega
      have HL := Lib.hid (r_letter_any s[0] w)
      have HK := Lib.hid (r_keyword_any s w)
      have HT := Lib.hid (fun w => r_token_any s 0 w (by omega) h0)
      clear hll
      have hte : ((tokAt s.data.toList 0).2 == s.size) = ((((tokAt s.data.toList 0).2 : Nat) : Int) == (s.size : Int)) := by
        rw [Bool.eq_iff_iff, beq_iff_eq, beq_iff_eq]
        omega
      rw [hte] at hv
      generalize nameB s.data.toList = z at *
      generalize tokAt s.data.toList 0 = tk at *
      generalize isKw s.data.toList = q at *
      generalize hc : letter s[0] = c at *
      have HV := Lib.hid hv
      clear hv hte hc
      cases c with
      | false =>
        go_enter Try.func23, Try.ntmps23
        go_wp2_with (fail)
        refine HL.out.mono ?_
        rintro e w' ⟨rfl, rfl⟩
        go_wp2_with (fail)
        go_ret
        exact ⟨ret_bool (by rw [HV.out]; rfl), Below.refl _ _⟩
      | true =>
        cases q with
        | true =>
          go_enter Try.func23, Try.ntmps23
          go_wp2_with (fail)
          refine HL.out.mono ?_
          rintro e w' ⟨rfl, rfl⟩
          go_wp2_with (fail)
          refine HK.out.mono ?_
          rintro e w1 ⟨rfl, hb⟩
          go_wp2_with (fail)
          go_ret
          exact ⟨ret_bool (by rw [HV.out]; rfl), hb⟩
        | false =>
          go_enter Try.func23, Try.ntmps23
          go_wp2_with (fail)
          refine HL.out.mono ?_
          rintro e w' ⟨rfl, rfl⟩
          go_wp2_with (fail)
          refine HK.out.mono ?_
          rintro e w1 ⟨rfl, hb⟩
          have B1 := Lib.hid hb
          have z1 := hb.size
          clear hb
          go_wp2_with (fail)
          refine (HT.out _).mono ?_
          rintro e w2 ⟨rfl, hb⟩
          have B2 := Lib.hid (B1.out.trans (hb.mono z1))
          clear hb
          go_wp2_with (fail)
          go_ret
          exact ⟨ret_bool (by rw [HV.out]; rfl), B2.out⟩
end Go.Proofs.Ytgihfnnffailiab
