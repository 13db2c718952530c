/- What is proved: Name of the lexer returns what the plain function says. -/
import Derived.Test.YtjikfdifcpdhhaaLxNum
set_option linter.unusedVariables false
namespace Go.Proofs.Ytjikfdifcpdhhaa.Lx
open Go.RowKit

theorem ret_bool {a b : Bool} (h : a = b) : Ending.returned (.bool a) = .returned (.bool b) := by rw [h]
def covB (t : Tok) (a e : Int) : Bool := decide (a < e) && t.at_ == a && t.hi == e

set_option maxHeartbeats 400000 in
theorem covers_any (t : Tok) (a e : Int) (w : World) :
    Calls Try.prog 90 #[tokV t, .int .i64 a, .int .i64 e] w fun r w' => r = .returned (.bool (covB t a e)) ∧ Below w.heap.size w w' := by
  have HV := Lib.hid (show covB t a e = (decide (a < e) && t.at_ == a && t.hi == e) from rfl)
  generalize covB t a e = z at *
  obtain ⟨kd, lo, ta, th⟩ := t
  unfold tokV
  simp only at HV
  go_enter Try.func90, Try.ntmps90
  go_wp2_with (fail)
  all_goals
    go_ret
    refine ⟨ret_bool ?_, (Below.refl _ _).alloc (Nat.le_refl _) _⟩
    rw [HV.out]
    simp_all
    try omega

theorem run_haltN (l : List UInt8) (p : UInt8 → Bool) (i : Nat) (h : p (at_ l i) = false) : run l p i = i := by
  unfold run
  exact whl_no _ _ _ h
theorem blank_noneN (l : List UInt8) (i : Nat) (hi : i < l.length) (h : white (at_ l i) = false) (h2 : at_ l i ≠ 35) : blank l i = i := by
  have hw : run l white i = i := run_haltN l white i h
  unfold blank
  rw [blk_step, hw, if_pos (.inr h2)]
def nameB (l : List UInt8) : Bool := decide (1 ≤ l.length) && decide (l.length ≤ 16) && letter (at_ l 0) && !isKw l && (tokAt l 0).2 == l.length

theorem letter_not (b : UInt8) (h : letter b = true) : white b = false ∧ b ≠ 35 := by
  unfold letter at h
  simp at h
  constructor
  · cases hw : white b with
    | false => rfl
    | true =>
      rw [white_eq] at hw
      simp at hw
      omega
  · rintro rfl
    have : (35 : UInt8).toNat = 35 := rfl
    omega
theorem letter_out (l : List UInt8) (h : letter (at_ l 0) = true) : 0 < l.length := by
  cases l with
  | nil => exact absurd h (by decide)
  | cons b bs => simp

theorem name_eq (l : List UInt8) : nameB l = (decide (l.length ≤ 16) && ((nextTok l 0).kind == 0 && covB (nextTok l 0) 0 l.length)) := by
  unfold nameB covB nextTok
  simp only
  rw [Bool.eq_iff_iff]
  simp only [Bool.and_eq_true, decide_eq_true_eq, beq_iff_eq, Bool.not_eq_true']
  constructor
  · rintro ⟨⟨⟨⟨h1, h2⟩, h3⟩, h4⟩, h5⟩
    have hb : blank l 0 = 0 := blank_noneN l 0 (by omega) (letter_not _ h3).1 (letter_not _ h3).2
    rw [hb]
    refine ⟨h2, ?_, ⟨by omega, rfl⟩, by omega⟩
    unfold tokAt at h5 ⊢
    rw [if_neg (by omega), if_pos h3] at h5 ⊢
    simp only at h5 ⊢
    rw [h5, List.take_length, List.drop_zero, h4]
    rfl
  · rintro ⟨h1, h2, ⟨h3, h4⟩, h5⟩
    have hb : blank l 0 = 0 := by omega
    rw [hb] at h2 h5
    have hlt : 0 < l.length := by omega
    have hle : letter (at_ l 0) = true := by
      cases hc : letter (at_ l 0) with
      | true => rfl
      | false =>
        unfold tokAt at h2
        rw [if_neg (by omega), hc, if_neg (by simp)] at h2
        split at h2
        · simp at h2
        · split at h2 <;> simp at h2
    refine ⟨⟨⟨⟨by omega, h1⟩, hle⟩, ?_⟩, by omega⟩
    unfold tokAt at h2 h5
    rw [if_neg (by omega), if_pos hle] at h2 h5
    simp only at h2 h5
    have e : run l inName 0 = l.length := by omega
    rw [e, List.take_length, List.drop_zero] at h2
    cases hk : isKw l with
    | false => rfl
    | true => rw [hk] at h2; simp at h2

set_option maxHeartbeats 1000000 in
theorem name_any (s : ByteArray) (w : World) :
    Calls Try.prog 73 #[.string s] w fun e w' => e = .returned (.bool (nameB s.data.toList)) ∧ Below w.heap.size w w' := by
  have hll : s.data.toList.length = s.size := by simp
  have hv := name_eq s.data.toList
  rw [hll] at hv
  by_cases hs : 16 < s.size
  · rw [show decide (s.size ≤ 16) = false from decide_eq_false (by omega)] at hv
    have HV := Lib.hid hv
    clear hv hll
    go_enter Try.func73, Try.ntmps73
    go_wp2_with (fail)
    go_ret
    exact ⟨ret_bool (by rw [HV.out]; rfl), Below.refl _ _⟩
  · rw [show decide (s.size ≤ 16) = true from decide_eq_true (by omega)] at hv
    have HN := Lib.hid (newScanner_any s w)
    have HX := Lib.hid (fun g b wr h => next_any s g b 0 wr (by omega) (Nat.zero_le _) h)
    generalize nextTok s.data.toList 0 = t at *
    have HC := Lib.hid (fun w => covers_any t 0 s.size w)
    unfold tokV at HX HC
    generalize nameB s.data.toList = z at *
    generalize covB t 0 s.size = y at *
    have HV := Lib.hid hv
    clear hv hll
    go_enter Try.func73, Try.ntmps73
    go_wp2_with (fail)
    refine HN.out.mono ?_
    rintro e w1 ⟨g, k, rfl, hsc, hge, hb1⟩
    have S1 := Lib.hid hsc
    have z1 := hb1.size
    have B1 := Lib.hid hb1
    clear hsc hb1
    go_wp2_with (fail)
    refine (HX.out g k w1 S1.out).mono ?_
    rintro e w2 ⟨rfl, hsc, hg⟩
    have hb2 := B1.out.grown hg z1 (fun k hk => by injection hk with hk; omega)
    have z2 := hb2.size
    have B2 := Lib.hid (hb2.alloc z2 (.cells #[.int .i64 t.kind, .int .i64 t.lo, .int .i64 t.at_, .int .i64 t.hi] 87))
    clear hsc hg hb2
    cases hk : (t.kind == 0) with
    | false =>
      rw [hk] at HV
      go_wp2_with (fail)
      go_ret
      exact ⟨ret_bool (by rw [HV.out]; rfl), B2.out⟩
    | true =>
      rw [hk] at HV
      go_wp2_with (fail)
      refine (HC.out _).mono ?_
      rintro e w3 ⟨rfl, hb3⟩
      have B3 := Lib.hid (B2.out.trans (hb3.mono (by simp; omega)))
      clear hb3
      go_wp2_with (fail)
      go_ret
      exact ⟨ret_bool (by rw [HV.out]; rfl), B3.out⟩

end Go.Proofs.Ytjikfdifcpdhhaa.Lx
