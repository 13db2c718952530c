/- What is proved: plain facts: how positions, offsets and the beginnings of lines hang together (no program is spoken of). -/
import Derived.Test.YtgihfnnffailiaaPosPlain
set_option linter.unusedVariables false
namespace Go.Proofs.Ytgihfnnffailiaa
open Go

theorem getD_left (a b : List Nat) (d n : Nat) (h : n < a.length) : (a ++ b).getD n d = a.getD n d := by
  rw [List.getD_eq_getElem?_getD, List.getD_eq_getElem?_getD, List.getElem?_append_left h]
theorem getD_right (a b : List Nat) (d n : Nat) (h : a.length ≤ n) : (a ++ b).getD n d = b.getD (n - a.length) d := by
  rw [List.getD_eq_getElem?_getD, List.getD_eq_getElem?_getD, List.getElem?_append_right h]

def L (l : List UInt8) : List Nat := lnsTo l l.length
/-- beginning and end of line j (from 0 on) -/
def frm (l : List UInt8) (j : Nat) : Nat := (L l).getD j 0
def fin_ (l : List UInt8) (j : Nat) : Nat := if j + 1 < (L l).length then frm l (j + 1) - 1 else l.length

theorem lns_pos (l : List UInt8) (k : Nat) : (lnsTo l k).length = (posTo l k).1 ∧ (lnsTo l k).getD ((lnsTo l k).length - 1) 0 + (posTo l k).2 = k + 1 ∧ (∀ j, j < (lnsTo l k).length → (lnsTo l k).getD j 0 ≤ k) := by
  induction k with
  | zero => exact ⟨rfl, rfl, fun j hj => by simp [lnsTo] at hj ⊢; subst hj; simp⟩
  | succ k ih =>
    obtain ⟨h1, h2, h3⟩ := ih
    by_cases h : l[k]? = some 10
    · rw [lnsTo_yes l k h, posTo_yes l k h]
      refine ⟨by simp [h1], by simp, fun j hj => ?_⟩
      simp only [List.length_append, List.length_singleton] at hj
      rcases Nat.lt_or_ge j (lnsTo l k).length with g | g
      · rw [getD_left _ _ _ _ g]
        have := h3 j g
        omega
      · rw [getD_right _ _ _ _ g]
        have : j - (lnsTo l k).length = 0 := by omega
        rw [this]
        simp
    · rw [lnsTo_no l k h, posTo_no l k h]
      exact ⟨h1, by show _ + ((posTo l k).2 + 1) = _; omega, fun j hj => by have := h3 j hj; omega⟩

theorem lns_more (l : List UInt8) (k d : Nat) : (lnsTo l k).length ≤ (lnsTo l (k + d)).length ∧ (∀ j, j < (lnsTo l k).length → (lnsTo l (k + d)).getD j 0 = (lnsTo l k).getD j 0) ∧ (∀ j, (lnsTo l k).length ≤ j → j < (lnsTo l (k + d)).length → k < (lnsTo l (k + d)).getD j 0) := by
  induction d with
  | zero => exact ⟨Nat.le_refl _, fun _ _ => rfl, fun j h1 h2 => absurd h2 (by simpa using h1)⟩
  | succ d ih =>
    obtain ⟨h1, h2, h3⟩ := ih
    rw [show k + (d + 1) = (k + d) + 1 from rfl]
    by_cases h : l[k + d]? = some 10
    · rw [lnsTo_yes l _ h]
      refine ⟨by simp; omega, fun j hj => ?_, fun j g1 g2 => ?_⟩
      · rw [getD_left _ _ _ _ (by omega)]
        exact h2 j hj
      · simp only [List.length_append, List.length_singleton] at g2
        rcases Nat.lt_or_ge j (lnsTo l (k + d)).length with g | g
        · rw [getD_left _ _ _ _ g]
          exact h3 j g1 g
        · rw [getD_right _ _ _ _ g]
          have : j - (lnsTo l (k + d)).length = 0 := by omega
          rw [this]
          simp
          omega
    · rw [lnsTo_no l _ h]
      exact ⟨h1, h2, h3⟩

theorem L_len (l : List UInt8) : 1 ≤ (L l).length ∧ (L l).length ≤ l.length + 1 := lnsTo_length l l.length
theorem frm_le (l : List UInt8) (j : Nat) (hj : j < (L l).length) : frm l j ≤ l.length := (lns_pos l l.length).2.2 j hj

/-- an offset: its line begins before it, and does not end before it -/
theorem pos_line (l : List UInt8) (i : Nat) (hi : i ≤ l.length) : 1 ≤ (posTo l i).1 ∧ (posTo l i).1 - 1 < (L l).length ∧ frm l ((posTo l i).1 - 1) + (posTo l i).2 = i + 1 ∧ i ≤ fin_ l ((posTo l i).1 - 1) := by
  obtain ⟨h1, h2, h3⟩ := lns_pos l i
  obtain ⟨m1, m2, m3⟩ := lns_more l i (l.length - i)
  rw [show i + (l.length - i) = l.length from by omega] at m1 m2 m3
  have hb := posTo_bd l i
  have hL : (L l) = lnsTo l l.length := rfl
  refine ⟨hb.1, by rw [hL]; omega, ?_, ?_⟩
  · unfold frm
    rw [hL, m2 _ (by omega), ← h1]
    exact h2
  · unfold fin_
    rw [show (posTo l i).1 - 1 + 1 = (posTo l i).1 from by omega]
    split
    · rename_i g
      unfold frm
      have := m3 (posTo l i).1 (by omega) (by rw [hL] at g; exact g)
      rw [hL]
      omega
    · exact hi

theorem L_mono (l : List UInt8) (i j : Nat) (hij : i < j) (hj : j < (L l).length) : frm l i < frm l j := by
  obtain ⟨h1, h2, h3⟩ := lns_pos l (frm l i)
  obtain ⟨p1, p2, p3, p4⟩ := pos_line l (frm l i) (frm_le l i (by omega))
  have key : ∀ d, ∀ i, i + d + 1 < (L l).length → frm l i < frm l (i + d + 1) := by
    have one : ∀ k, ∀ j, j + 1 < (lnsTo l k).length → (lnsTo l k).getD j 0 < (lnsTo l k).getD (j + 1) 0 := by
      intro k
      induction k with
      | zero => intro j hj; simp [lnsTo] at hj
      | succ k ih =>
        intro j hj
        by_cases h : l[k]? = some 10
        · rw [lnsTo_yes l k h] at hj ⊢
          simp only [List.length_append, List.length_singleton] at hj
          rw [getD_left _ _ _ _ (by omega)]
          rcases Nat.lt_or_ge (j + 1) (lnsTo l k).length with g | g
          · rw [getD_left _ _ _ _ g]
            exact ih j g
          · rw [getD_right _ _ _ _ g]
            have : j + 1 - (lnsTo l k).length = 0 := by omega
            rw [this]
            have := (lns_pos l k).2.2 j (by omega)
            show (lnsTo l k).getD j 0 < k + 1
            omega
        · rw [lnsTo_no l k h] at hj ⊢
          exact ih j hj
    intro d
    induction d with
    | zero => intro i hi; exact one l.length i hi
    | succ d ih =>
      intro i hi
      have a := ih i (by omega)
      have b := one l.length (i + d + 1) (by show _ < (L l).length; omega)
      exact Nat.lt_trans a b
  have := key (j - i - 1) i (by omega)
  rwa [show i + (j - i - 1) + 1 = j from by omega] at this

theorem frm_fin (l : List UInt8) (j : Nat) (hj : j < (L l).length) : frm l j ≤ fin_ l j ∧ fin_ l j ≤ l.length ∧ (j + 1 < (L l).length → fin_ l j < l.length) := by
  unfold fin_
  split
  · rename_i g
    have a := L_mono l j (j + 1) (by omega) g
    have b := frm_le l (j + 1) g
    exact ⟨by omega, by omega, fun _ => by omega⟩
  · rename_i g
    exact ⟨frm_le l j hj, Nat.le_refl _, fun h => absurd h g⟩

/-- each place of a line has this position -/
theorem line_pos (l : List UInt8) (j c : Nat) (hj : j < (L l).length) (hc : 1 ≤ c) (he : frm l j + c ≤ fin_ l j + 1) : posTo l (frm l j + c - 1) = (j + 1, c) := by
  have hf := frm_fin l j hj
  obtain ⟨p1, p2, p3, p4⟩ := pos_line l (frm l j + c - 1) (by omega)
  have hb := posTo_bd l (frm l j + c - 1)
  generalize hp : posTo l (frm l j + c - 1) = p at *
  obtain ⟨a, b⟩ := p
  simp only at *
  have e : a - 1 = j := by
    rcases Nat.lt_trichotomy (a - 1) j with g | g | g
    · have m : frm l a ≤ frm l j := by
        rcases Nat.lt_or_ge a j with g2 | g2
        · exact Nat.le_of_lt (L_mono l a j g2 hj)
        · rw [show a = j from by omega]; exact Nat.le_refl _
      have m0 := L_mono l (a - 1) a (by omega) (by omega)
      unfold fin_ at p4
      rw [if_pos (by omega), show a - 1 + 1 = a from by omega] at p4
      omega
    · exact g
    · have m : frm l (j + 1) ≤ frm l (a - 1) := by
        rcases Nat.lt_or_ge (j + 1) (a - 1) with g2 | g2
        · exact Nat.le_of_lt (L_mono l _ _ g2 p2)
        · rw [show a - 1 = j + 1 from by omega]; exact Nat.le_refl _
      have m0 := L_mono l j (j + 1) (by omega) (by omega)
      unfold fin_ at he
      rw [if_pos (by omega)] at he
      omega
  rw [e] at p3
  have e1 : a = j + 1 := by omega
  have e2 : b = c := by omega
  rw [e1, e2]

theorem pos_inj (l : List UInt8) (i k : Nat) (hi : i ≤ l.length) (hk : k ≤ l.length) (h : posTo l i = posTo l k) : i = k := by
  have a := (pos_line l i hi).2.2.1
  have b := (pos_line l k hk).2.2.1
  rw [h] at a
  omega
end Go.Proofs.Ytgihfnnffailiaa
