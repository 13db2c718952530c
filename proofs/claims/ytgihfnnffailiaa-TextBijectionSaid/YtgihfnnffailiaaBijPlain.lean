/- What is proved: plain facts: the lines of a text, put together with their ends, are the text. -/
import Derived.Test.YtgihfnnffailiaaLinePlain
import Derived.Lib.Join
set_option linter.unusedVariables false
namespace Go.Proofs.Ytgihfnnffailiaa
open Go

theorem lns_ten (l : List UInt8) : ∀ k, k ≤ l.length → (lnsTo l k).getD 0 0 = 0 ∧ ∀ j, 0 < j → j < (lnsTo l k).length → 1 ≤ (lnsTo l k).getD j 0 ∧ l[(lnsTo l k).getD j 0 - 1]? = some 10 := by
  intro k
  induction k with
  | zero => intro _; exact ⟨rfl, fun j h1 h2 => by simp [lnsTo] at h2; omega⟩
  | succ k ih =>
    intro hk
    obtain ⟨h0, hj⟩ := ih (by omega)
    have hl := lnsTo_length l k
    by_cases h : l[k]? = some 10
    · rw [lnsTo_yes l k h]
      refine ⟨by rw [getD_left _ _ _ _ (by omega)]; exact h0, fun j h1 h2 => ?_⟩
      simp only [List.length_append, List.length_singleton] at h2
      by_cases g : j < (lnsTo l k).length
      · rw [getD_left _ _ _ _ g]
        exact hj j h1 g
      · rw [getD_right _ _ _ _ (by omega), show j - (lnsTo l k).length = 0 from by omega]
        exact ⟨by show 1 ≤ k + 1; omega, by show l[k + 1 - 1]? = some 10; rw [Nat.add_sub_cancel]; exact h⟩
    · rw [lnsTo_no l k h]
      exact ⟨h0, hj⟩
theorem frm_zero (l : List UInt8) : frm l 0 = 0 := (lns_ten l l.length (Nat.le_refl _)).1
theorem fin_ten (l : List UInt8) (j : Nat) (hj : j + 1 < (L l).length) : frm l (j + 1) = fin_ l j + 1 ∧ l[fin_ l j]? = some 10 := by
  have := (lns_ten l l.length (Nat.le_refl _)).2 (j + 1) (by omega) hj
  have e : fin_ l j = frm l (j + 1) - 1 := by
    unfold fin_
    rw [if_pos hj]
  rw [e]
  have h1 : 1 ≤ frm l (j + 1) := this.1
  exact ⟨by omega, this.2⟩

/-- the text of line j -/
def lineL (l : List UInt8) (j : Nat) : List UInt8 := (l.take (fin_ l j)).drop (frm l j)
theorem join_step (x y : List UInt8) (r : List (List UInt8)) : Lib.join (x :: y :: r) [10] = x ++ 10 :: Lib.join (y :: r) [10] := by
  rw [Lib.join_cons, Lib.join_cons]
  simp [Lib.joinTail]
theorem join_from (l : List UInt8) : ∀ d j, j + d + 1 = (L l).length → Lib.join ((List.range' j (d + 1)).map (lineL l)) [10] = l.drop (frm l j) := by
  intro d
  induction d with
  | zero =>
    intro j hj
    show Lib.join [lineL l j] [10] = _
    rw [Lib.join_one]
    unfold lineL fin_
    rw [if_neg (by omega), List.take_length]
  | succ d ih =>
    intro j hj
    have h := ih (j + 1) (by omega)
    have hf := fin_ten l j (by omega)
    have hb := frm_fin l j (by omega)
    rw [List.range'_succ, List.map_cons]
    obtain ⟨y, r, hyr⟩ : ∃ y r, (List.range' (j + 1) (d + 1)).map (lineL l) = y :: r := ⟨_, _, by rw [List.range'_succ, List.map_cons]⟩
    rw [hyr] at h ⊢
    rw [join_step, h, hf.1]
    have hlt : fin_ l j < l.length := hb.2.2 (by omega)
    have hg : l[fin_ l j] = 10 := by
      have := hf.2
      rw [List.getElem?_eq_getElem hlt] at this
      exact Option.some.inj this
    have e : l.drop (fin_ l j) = 10 :: l.drop (fin_ l j + 1) := by rw [List.drop_eq_getElem_cons hlt, hg]
    rw [← e]
    unfold lineL
    rw [List.drop_take]
    have e2 : l.drop (fin_ l j) = (l.drop (frm l j)).drop (fin_ l j - frm l j) := by rw [List.drop_drop]; congr 1; omega
    rw [e2, List.take_append_drop]
theorem join_all (l : List UInt8) : Lib.join ((List.range (L l).length).map (lineL l)) [10] = l := by
  have h := L_len l
  have j := join_from l ((L l).length - 1) 0 (by omega)
  rw [show (L l).length - 1 + 1 = (L l).length from by omega, frm_zero, List.drop_zero, ← List.range_eq_range'] at j
  exact j

theorem index_in (l : List UInt8) (c : UInt8) : (0 ≤ Lib.indexByte l c) ↔ c ∈ l := by
  induction l with
  | nil => simp [Lib.indexByte]
  | cons b l ih =>
    have hge := Lib.indexByte_ge l c
    unfold Lib.indexByte
    by_cases h : b = c
    · simp [h]
    · have h2 : (b == c) = false := by simpa using h
      rw [h2]
      by_cases h3 : Lib.indexByte l c = -1
      · simp [h3]
        exact ⟨fun e => h e.symm, fun hm => by have := ih.2 hm; omega⟩
      · have h4 : (Lib.indexByte l c == -1) = false := by simpa using h3
        simp [h4]
        constructor
        · intro _; exact .inr (ih.1 (by omega))
        · intro _; omega
end Go.Proofs.Ytgihfnnffailiaa
