/- What is proved: Name of the lexer returns what the plain function says. -/
import Derived.Test.YtoopnddlcofhoaaGreatDoorLxNum
set_option linter.unusedVariables false
namespace Go.Proofs.YtoopnddlcofhoaaGreatDoor.Lx
open Go.RowKit

theorem ret_bool {a b : Bool} (h : a = b) : Ending.returned (.bool a) = .returned (.bool b) := by rw [h]
def covB (t : Tok) (a e : Int) : Bool := decide (a < e) && t.at_ == a && t.hi == e

theorem run_haltN (l : List UInt8) (p : UInt8 → Bool) (i : Nat) (h : p (at_ l i) = false) : run l p i = i := by
  unfold run
  exact whl_no _ _ _ h
theorem blank_noneN (l : List UInt8) (i : Nat) (hi : i < l.length) (h : white (at_ l i) = false) (h2 : at_ l i ≠ 35) : blank l i = i := by
  have hw : run l white i = i := run_haltN l white i h
  unfold blank
  rw [blk_step, hw, if_pos (.inr h2)]
def nameB (l : List UInt8) : Bool := decide (1 ≤ l.length) && decide (l.length ≤ 16) && letter (at_ l 0) && !isKw l && (tokAt l 0).2 == l.length

theorem letter_not (b : UInt8) (h : letter b = true) : white b = false ∧ b ≠ 35 := by
  unfold letter at h
  simp at h
  constructor
  · cases hw : white b with
    | false => rfl
    | true =>
      rw [white_eq] at hw
      simp at hw
      omega
  · rintro rfl
    have : (35 : UInt8).toNat = 35 := rfl
    omega
theorem letter_out (l : List UInt8) (h : letter (at_ l 0) = true) : 0 < l.length := by
  cases l with
  | nil => exact absurd h (by decide)
  | cons b bs => simp

theorem name_eq (l : List UInt8) : nameB l = (decide (l.length ≤ 16) && ((nextTok l 0).kind == 0 && covB (nextTok l 0) 0 l.length)) := by
  unfold nameB covB nextTok
  simp only
  rw [Bool.eq_iff_iff]
  simp only [Bool.and_eq_true, decide_eq_true_eq, beq_iff_eq, Bool.not_eq_true']
  constructor
  · rintro ⟨⟨⟨⟨h1, h2⟩, h3⟩, h4⟩, h5⟩
    have hb : blank l 0 = 0 := blank_noneN l 0 (by omega) (letter_not _ h3).1 (letter_not _ h3).2
    rw [hb]
    refine ⟨h2, ?_, ⟨by omega, rfl⟩, by omega⟩
    unfold tokAt at h5 ⊢
    rw [if_neg (by omega), if_pos h3] at h5 ⊢
    simp only at h5 ⊢
    rw [h5, List.take_length, List.drop_zero, h4]
    rfl
  · rintro ⟨h1, h2, ⟨h3, h4⟩, h5⟩
    have hb : blank l 0 = 0 := by omega
    rw [hb] at h2 h5
    have hlt : 0 < l.length := by omega
    have hle : letter (at_ l 0) = true := by
      cases hc : letter (at_ l 0) with
      | true => rfl
      | false =>
        unfold tokAt at h2
        rw [if_neg (by omega), hc, if_neg (by simp)] at h2
        split at h2
        · simp at h2
        · split at h2 <;> simp at h2
    refine ⟨⟨⟨⟨by omega, h1⟩, hle⟩, ?_⟩, by omega⟩
    unfold tokAt at h2 h5
    rw [if_neg (by omega), if_pos hle] at h2 h5
    simp only at h2 h5
    have e : run l inName 0 = l.length := by omega
    rw [e, List.take_length, List.drop_zero] at h2
    cases hk : isKw l with
    | false => rfl
    | true => rw [hk] at h2; simp at h2

end Go.Proofs.YtoopnddlcofhoaaGreatDoor.Lx
