/- What is proved: the chain of conjunctions of negated gates and inputs, as plain mathematics. -/
import Derived.Test.YtaccienlokoolaaGaCn
set_option linter.unusedVariables false
namespace Go.Proofs.Ytaccienlokoolaa
open Go.RowKit

def chU (i : Nat) : Int := if i % 2 = 0 then 4 else 2
def chn : Nat → List Gt
  | 0 => [⟨2, 4⟩]
  | i + 1 => chn i ++ [⟨chU i, 7 + 2 * (i : Int)⟩]
theorem chn_len (i : Nat) : (chn i).length = i + 1 := by
  induction i with
  | zero => rfl
  | succ i ih => simp [chn, ih]
theorem chn_mem {i : Nat} {g : Gt} (h : g ∈ chn i) : g.y < 7 + 2 * (i : Int) := by
  induction i with
  | zero => simp [chn] at h; subst h; show (4 : Int) < _; omega
  | succ i ih =>
    simp only [chn, List.mem_append, List.mem_singleton] at h
    rcases h with h | h
    · have := ih h; omega
    · subst h; show (7 + 2 * (i : Int)) < _; omega
theorem chU_or (i : Nat) : chU i = 4 ∨ chU i = 2 := by unfold chU; split <;> simp
theorem chn_and (i : Nat) : andN 2 (chn i) (7 + 2 * (i : Int)) (chU i) = 6 + 2 * ((i + 1 : Nat) : Int) ∧ andL (chn i) (7 + 2 * (i : Int)) (chU i) = chn (i + 1) := by
  have hu := chU_or i
  have hk : andK (7 + 2 * (i : Int)) (chU i) = none := by
    unfold andK
    have hn : 7 + 2 * (i : Int) ≠ notP (chU i) := by
      have := notP_near (chU i)
      rcases hu with h | h
      · rw [h] at this ⊢; omega
      · rw [h] at this ⊢; omega
    rw [if_neg (by omega), if_neg (by omega), if_neg (by omega), if_neg hn]
  have hg : gat (7 + 2 * (i : Int)) (chU i) = ⟨chU i, 7 + 2 * (i : Int)⟩ := by
    unfold gat
    apply Gt.ext' <;> simp only <;> omega
  have hx : gix (chn i) (gat (7 + 2 * (i : Int)) (chU i)) = none := by
    rw [hg]
    refine gix_not fun hm => ?_
    have := chn_mem hm
    simp only at this
    omega
  obtain ⟨e1, e2⟩ := and_new (I := 2) hk hx
  rw [e1, e2, hg, chn_len]
  exact ⟨by omega, rfl⟩
theorem chn_lits (i : Nat) : isLit 2 (chn i) (7 + 2 * (i : Int)) ∧ isLit 2 (chn i) (chU i) ∧ isLit 2 (chn i) (6 + 2 * (i : Int)) := by
  have hu := chU_or i
  unfold isLit
  rw [chn_len]
  omega
theorem chn_not (i : Nat) : notP (6 + 2 * (i : Int)) = 7 + 2 * (i : Int) := by rw [notP_even (by omega)]; omega
theorem chn_ok (i : Nat) : CkOk 2 (chn i) := by
  induction i with
  | zero => exact (and_ok (x := 2) (y := 4) (CkOk.nil (I := 2) (by decide) (by decide)) (by decide) (by decide)).ok
  | succ i ih =>
    have := (and_ok ih (chn_lits i).1 (chn_lits i).2.1).ok
    rw [(chn_and i).2] at this
    exact this
/-- the value of the chain's last gate -/
def chV (flip : Bool) : Nat → Bool
  | 0 => !flip
  | i + 1 => !chV flip i && (decide (i % 2 = 1) || !flip)
theorem chn_val (flip : Bool) (i : Nat) : litV (nv [true, !flip] (chn i)) (6 + 2 * (i : Int)) = chV flip i := by
  have h2 : ∀ gs, litV (nv [true, !flip] gs) 2 = true := fun gs => litV_inp (inp := [true, !flip]) gs (i := 0) (by simp)
  have h4 : ∀ gs, litV (nv [true, !flip] gs) 4 = !flip := fun gs => litV_inp (inp := [true, !flip]) gs (i := 1) (by simp)
  induction i with
  | zero =>
    have := (and_ok (x := 2) (y := 4) (CkOk.nil (I := 2) (by decide) (by decide)) (by decide) (by decide)).val [true, !flip] rfl
    simp only [h2, h4] at this
    have e : andN 2 [] 2 4 = 6 ∧ andL [] 2 4 = chn 0 := by decide +kernel
    rw [e.1, e.2] at this
    simp only [chV]
    rw [show (6 : Int) + 2 * ((0 : Nat) : Int) = 6 by omega, this]
    simp
  | succ i ih =>
    have := (and_ok (chn_ok i) (chn_lits i).1 (chn_lits i).2.1).val [true, !flip] rfl
    rw [(chn_and i).1, (chn_and i).2] at this
    rw [this, ← chn_not, litV_not, ih]
    simp only [chV]
    congr 1
    unfold chU
    by_cases h : i % 2 = 0
    · rw [if_pos h, h4, decide_eq_false (by omega)]; simp
    · rw [if_neg h, h2, decide_eq_true (by omega)]; simp
end Go.Proofs.Ytaccienlokoolaa
