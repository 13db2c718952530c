/- What is proved: plain facts on lists of bytes: the beginnings of lines, positions, replacements (no program is spoken of). -/
set_option linter.unusedVariables false
namespace Go.Proofs.Ytgihfnnffailiaa

/-- the beginnings of the lines of the first k bytes -/
def lnsTo (l : List UInt8) : Nat → List Nat
  | 0 => [0]
  | k + 1 => lnsTo l k ++ (if l[k]? = some 10 then [k + 1] else [])

theorem lnsTo_length (l : List UInt8) (k : Nat) : 1 ≤ (lnsTo l k).length ∧ (lnsTo l k).length ≤ k + 1 := by
  induction k with
  | zero => simp [lnsTo]
  | succ k ih => simp only [lnsTo, List.length_append]; split <;> simp <;> omega

theorem lnsTo_yes (l : List UInt8) (k : Nat) (h : l[k]? = some 10) : lnsTo l (k + 1) = lnsTo l k ++ [k + 1] := by simp [lnsTo, h]
theorem lnsTo_no (l : List UInt8) (k : Nat) (h : l[k]? ≠ some 10) : lnsTo l (k + 1) = lnsTo l k := by simp [lnsTo, h]
end Go.Proofs.Ytgihfnnffailiaa
