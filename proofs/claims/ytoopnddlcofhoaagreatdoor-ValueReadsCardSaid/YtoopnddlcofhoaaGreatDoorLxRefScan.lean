/- What is proved: the reference's skip and token return what the plain functions say. -/
import Derived.Test.YtoopnddlcofhoaaGreatDoorLxRefSym
set_option linter.unusedVariables false
namespace Go.Proofs.YtoopnddlcofhoaaGreatDoor.Lx
open Go.RowKit

theorem run_next (l : List UInt8) (p : UInt8 → Bool) (i : Nat) (hi : i < l.length) (h : p (at_ l i) = true) : run l p i = run l p (i + 1) := by
  unfold run
  exact whl_yes _ _ _ hi h
theorem run_halt (l : List UInt8) (p : UInt8 → Bool) (i : Nat) (h : p (at_ l i) = false) : run l p i = i := by
  unfold run
  exact whl_no _ _ _ h
theorem run_out (l : List UInt8) (p : UInt8 → Bool) (i : Nat) (h : ¬ i < l.length) : run l p i = i := by
  unfold run
  exact whl_end _ _ _ h
theorem blank_white (l : List UInt8) (i : Nat) (hi : i < l.length) (h : white (at_ l i) = true) : blank l i = blank l (i + 1) := by
  unfold blank
  rw [blk_step, blk_step, run_next l white i hi h]
theorem blank_hash (l : List UInt8) (i : Nat) (hi : i < l.length) (h : at_ l i = 35) : blank l i = blank l (run l notNl i) := by
  have hw : run l white i = i := run_halt l white i (by rw [h]; rfl)
  have hy := run_yes l notNl i hi (by rw [h]; rfl)
  have hb := run_bd l notNl i (by omega)
  have e : blank l i = blk l l.length (run l notNl i) := by
    unfold blank
    rw [blk_step, hw, if_neg]
    intro hh
    rcases hh with hh | hh
    · omega
    · exact hh h
  rw [e]
  exact blk_more l _ _ hb.2 (by omega)
theorem blank_none (l : List UInt8) (i : Nat) (hi : i < l.length) (h : white (at_ l i) = false) (h2 : at_ l i ≠ 35) : blank l i = i := by
  have hw : run l white i = i := run_halt l white i h
  unfold blank
  rw [blk_step, hw, if_pos (.inr h2)]
theorem blank_out (l : List UInt8) (i : Nat) (hi : i = l.length) : blank l i = i := by
  have hw : run l white i = i := run_out l white i (by omega)
  unfold blank
  rw [blk_step, hw, if_pos (.inl hi)]

theorem u8_35 (b : UInt8) : (b = 35) ↔ (((b.toNat : Int) == 35) = true) := by
  rw [← beq_iff_eq (a := b), u8_eq b 35]
  exact Iff.rfl
theorem notNl_eq (b : UInt8) : notNl b = !((b.toNat : Int) == 10) := by
  unfold notNl bne
  rw [u8_eq b 10]
  rfl
end Go.Proofs.YtoopnddlcofhoaaGreatDoor.Lx
