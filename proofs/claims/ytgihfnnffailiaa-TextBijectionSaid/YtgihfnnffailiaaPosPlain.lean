/- What is proved: plain facts on positions in lists of bytes, and how they hang together with counting a byte and with its last place (no program is spoken of). -/
import Derived.Lib.LastIndexByte
import Derived.Lib.Bytealg
import Derived.Test.YtgihfnnffailiaaPlain
set_option linter.unusedVariables false
namespace Go.Proofs.Ytgihfnnffailiaa
open Go

/-- line and column of offset k -/
def posTo (l : List UInt8) : Nat → Nat × Nat
  | 0 => (1, 1)
  | k + 1 => if l[k]? = some 10 then ((posTo l k).1 + 1, 1) else ((posTo l k).1, (posTo l k).2 + 1)

theorem posTo_yes (l : List UInt8) (k : Nat) (h : l[k]? = some 10) : posTo l (k + 1) = ((posTo l k).1 + 1, 1) := by simp [posTo, h]
theorem posTo_no (l : List UInt8) (k : Nat) (h : l[k]? ≠ some 10) : posTo l (k + 1) = ((posTo l k).1, (posTo l k).2 + 1) := by simp [posTo, h]

theorem posTo_line (l : List UInt8) (k : Nat) (hk : k ≤ l.length) : (posTo l k).1 = 1 + (l.take k).count 10 := by
  induction k with
  | zero => simp [posTo]
  | succ k ih =>
    have hl : k < l.length := by omega
    rw [List.take_succ_eq_append_getElem hl, List.count_append]
    have ih := ih (by omega)
    by_cases h : l[k]? = some 10
    · rw [posTo_yes l k h]
      rw [List.getElem?_eq_getElem hl] at h
      have h' := Option.some.inj h
      rw [h']
      simp
      omega
    · rw [posTo_no l k h]
      rw [List.getElem?_eq_getElem hl] at h
      have h' : l[k] ≠ 10 := fun e => h (by rw [e])
      have : ([l[k]] : List UInt8).count 10 = 0 := List.count_eq_zero.2 (by simp; exact fun e => h' e.symm)
      rw [this]
      exact ih

theorem posTo_col (l : List UInt8) (k : Nat) : 1 ≤ (posTo l k).2 ∧ (posTo l k).2 ≤ k + 1 ∧ ((posTo l k).2 ≤ k → l[k - (posTo l k).2]? = some 10) ∧ ∀ j, k < j + (posTo l k).2 → j < k → l[j]? ≠ some 10 := by
  induction k with
  | zero => exact ⟨by simp [posTo], by simp [posTo], fun h => absurd h (by simp [posTo]), fun j _ h => absurd h (by omega)⟩
  | succ k ih =>
    obtain ⟨h1, h2, h3, h4⟩ := ih
    by_cases h : l[k]? = some 10
    · rw [posTo_yes l k h]
      exact ⟨Nat.le_refl _, by simp, fun _ => by simpa using h, fun j hj hk => absurd hj (by show ¬ k + 1 < j + 1; omega)⟩
    · rw [posTo_no l k h]
      refine ⟨by show 1 ≤ (posTo l k).2 + 1; omega, by show (posTo l k).2 + 1 ≤ k + 1 + 1; omega, fun hc => ?_, fun j hj hk => ?_⟩
      · have hc' : (posTo l k).2 + 1 ≤ k + 1 := hc
        have e : k + 1 - ((posTo l k).2 + 1) = k - (posTo l k).2 := by omega
        show l[k + 1 - ((posTo l k).2 + 1)]? = some 10
        rw [e]
        exact h3 (by omega)
      · have hj' : k + 1 < j + ((posTo l k).2 + 1) := hj
        by_cases e : j = k
        · rw [e]; exact h
        · exact h4 j (by omega) (by omega)

theorem posTo_bd (l : List UInt8) (k : Nat) : 1 ≤ (posTo l k).1 ∧ (posTo l k).1 ≤ k + 1 ∧ 1 ≤ (posTo l k).2 ∧ (posTo l k).2 ≤ k + 1 := by
  have hc := posTo_col l k
  refine ⟨?_, ?_, hc.1, hc.2.1⟩
  · induction k with
    | zero => simp [posTo]
    | succ k ih => have := ih (posTo_col l k); by_cases h : l[k]? = some 10 <;> simp [posTo, h] <;> omega
  · induction k with
    | zero => simp [posTo]
    | succ k ih => have := ih (posTo_col l k); by_cases h : l[k]? = some 10 <;> simp [posTo, h] <;> omega

theorem get_take (s : ByteArray) (k j : Nat) (hk : k ≤ s.size) (hj : j < k) : (((s.extract 0 k).data[j]!).toNat : Int) = 10 ↔ s.data.toList[j]? = some 10 := by
  have hs : j < (s.extract 0 k).data.size := by
    have : (s.extract 0 k).size = min k s.size - 0 := by simp [ByteArray.size_extract]
    have e : (s.extract 0 k).data.size = (s.extract 0 k).size := rfl
    omega
  have hj2 : j < s.data.toList.length := by
    have e : s.data.toList.length = s.size := by simp
    omega
  rw [getElem!_pos (s.extract 0 k).data j hs, List.getElem?_eq_getElem hj2]
  have e : (s.extract 0 k).data[j] = s.data.toList[j] := by
    simp [ByteArray.data_extract]
  rw [e]
  constructor
  · intro h
    refine congrArg some (UInt8.toNat_inj.1 ?_)
    show s.data.toList[j].toNat = 10
    omega
  · intro h
    have h' := Option.some.inj h
    rw [h']
    rfl

theorem col_of_last (s : ByteArray) (k : Nat) (hk : k ≤ s.size) : (k : Int) - Lib.lastIndexByte (s.extract 0 k) 10 = ((posTo s.data.toList k).2 : Int) := by
  obtain ⟨h1, h2, h3, h4⟩ := posTo_col s.data.toList k
  have hsz : (s.extract 0 k).size = k := by simp [ByteArray.size_extract]; omega
  rcases Lib.lastIndexByte_spec (s.extract 0 k) 10 with ⟨e, hn⟩ | ⟨i, hi, e, hc, hn⟩
  · rw [e]
    rw [hsz] at hn
    have : ¬ (posTo s.data.toList k).2 ≤ k := fun hle => hn (k - (posTo s.data.toList k).2) (by omega) ((get_take s k _ hk (by omega)).2 (h3 hle))
    omega
  · rw [e]
    rw [hsz] at hi hn
    have hi10 := (get_take s k i hk hi).1 hc
    have a1 : ¬ k < i + (posTo s.data.toList k).2 := fun hh => h4 i hh hi hi10
    have a2 : ¬ i < k - (posTo s.data.toList k).2 := fun hh => hn (k - (posTo s.data.toList k).2) hh (by omega) ((get_take s k _ hk (by omega)).2 (h3 (by omega)))
    omega

theorem line_of_count (s : ByteArray) (k : Nat) (hk : k ≤ s.size) : 1 + (Lib.countByte (s.data.toList.take k) 10 : Int) = ((posTo s.data.toList k).1 : Int) := by
  rw [posTo_line _ _ (by simpa using hk)]
  unfold Lib.countByte
  simp
end Go.Proofs.Ytgihfnnffailiaa
