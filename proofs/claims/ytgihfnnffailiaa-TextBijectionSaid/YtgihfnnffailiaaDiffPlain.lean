/- What is proved: plain facts on the common beginning and the common end of two lists of bytes (no program is spoken of). -/
set_option linter.unusedVariables false
namespace Go.Proofs.Ytgihfnnffailiaa

/-- how many elements two lists have in common at the beginning -/
def cpl : List UInt8 → List UInt8 → Nat
  | x :: xs, y :: ys => if x = y then cpl xs ys + 1 else 0
  | _, _ => 0

theorem cpl_le (a b : List UInt8) : cpl a b ≤ a.length ∧ cpl a b ≤ b.length := by
  induction a generalizing b with
  | nil => simp [cpl]
  | cons x xs ih =>
    cases b with
    | nil => simp [cpl]
    | cons y ys =>
      have := ih ys
      simp only [cpl, List.length_cons]
      split <;> omega

theorem cpl_same (a b : List UInt8) : ∀ j, j < cpl a b → a[j]? = b[j]? := by
  induction a generalizing b with
  | nil => intro j h; simp [cpl] at h
  | cons x xs ih =>
    cases b with
    | nil => intro j h; simp [cpl] at h
    | cons y ys =>
      intro j h
      simp only [cpl] at h
      split at h
      · rename_i e
        cases j with
        | zero => simp [e]
        | succ j => simpa using ih ys j (by omega)
      · omega

theorem cpl_more (a b : List UInt8) (k : Nat) (hk : k ≤ cpl a b) (ha : k < a.length) (hb : k < b.length) (h : a[k] = b[k]) : k + 1 ≤ cpl a b := by
  induction a generalizing b k with
  | nil => simp at ha
  | cons x xs ih =>
    cases b with
    | nil => simp at hb
    | cons y ys =>
      cases k with
      | zero => simp at h; simp [cpl, h]
      | succ k =>
        simp only [cpl] at hk ⊢
        split at hk
        · rename_i e
          rw [if_pos e]
          have := ih ys k (by omega) (by simpa using ha) (by simpa using hb) (by simpa using h)
          omega
        · omega

theorem cpl_stop (a b : List UInt8) (k : Nat) (hk : k ≤ cpl a b) (h : a[k]? ≠ b[k]?) : k = cpl a b := by
  rcases Nat.lt_or_ge k (cpl a b) with hlt | hge
  · exact absurd (cpl_same a b k hlt) h
  · omega
theorem cpl_end (a b : List UInt8) (k : Nat) (hk : k ≤ cpl a b) (h : a.length ≤ k ∨ b.length ≤ k) : k = cpl a b := by
  have := cpl_le a b
  omega

theorem cpl_take (a b : List UInt8) : a.take (cpl a b) = b.take (cpl a b) := by
  apply List.ext_getElem?
  intro j
  rcases Nat.lt_or_ge j (cpl a b) with h | h
  · rw [List.getElem?_take_of_lt h, List.getElem?_take_of_lt h]
    exact cpl_same a b j h
  · rw [List.getElem?_eq_none (by simp; omega), List.getElem?_eq_none (by simp; omega)]

/-- how many elements two lists have in common at the end, behind their common beginning -/
def csl (a b : List UInt8) : Nat := cpl (a.drop (cpl a b)).reverse (b.drop (cpl a b)).reverse

theorem csl_le (a b : List UInt8) : cpl a b + csl a b ≤ a.length ∧ cpl a b + csl a b ≤ b.length := by
  have h := cpl_le (a.drop (cpl a b)).reverse (b.drop (cpl a b)).reverse
  have h2 := cpl_le a b
  simp only [List.length_reverse, List.length_drop] at h
  unfold csl
  omega

theorem rev_get (a : List UInt8) (n k : Nat) (hk : k < a.length - n) : (a.drop n).reverse[k]? = a[a.length - 1 - k]? := by
  rw [List.getElem?_reverse (by simpa using hk), List.getElem?_drop]
  congr 1
  simp
  omega

theorem csl_more (a b : List UInt8) (k : Nat) (hk : k ≤ csl a b) (ha : cpl a b + k < a.length) (hb : cpl a b + k < b.length) (h : a[a.length - 1 - k]? = b[b.length - 1 - k]?) : k + 1 ≤ csl a b := by
  have h1 := rev_get a (cpl a b) k (by omega)
  have h2 := rev_get b (cpl a b) k (by omega)
  have l1 : k < (a.drop (cpl a b)).reverse.length := by simp; omega
  have l2 : k < (b.drop (cpl a b)).reverse.length := by simp; omega
  refine cpl_more _ _ k hk l1 l2 ?_
  rw [List.getElem?_eq_getElem l1] at h1
  rw [List.getElem?_eq_getElem l2] at h2
  exact Option.some.inj (h1.trans (h.trans h2.symm))

theorem csl_stop (a b : List UInt8) (k : Nat) (hk : k ≤ csl a b) (ha : cpl a b + k < a.length) (hb : cpl a b + k < b.length) (h : a[a.length - 1 - k]? ≠ b[b.length - 1 - k]?) : k = csl a b := by
  have h1 := rev_get a (cpl a b) k (by omega)
  have h2 := rev_get b (cpl a b) k (by omega)
  exact cpl_stop _ _ k hk (by rw [h1, h2]; exact h)
theorem csl_end (a b : List UInt8) (k : Nat) (hk : k ≤ csl a b) (h : a.length ≤ cpl a b + k ∨ b.length ≤ cpl a b + k) : k = csl a b := by
  have := csl_le a b
  omega

theorem drop_rev (a b : List UInt8) (k : Nat) (h : a.reverse.take k = b.reverse.take k) : a.drop (a.length - k) = b.drop (b.length - k) := by
  have e : ∀ c : List UInt8, c.reverse.take k = (c.drop (c.length - k)).reverse := fun c => List.take_reverse
  rw [e a, e b] at h
  exact List.reverse_inj.1 h

/-- the difference, put in, gives the other list -/
theorem diff_turns (a b : List UInt8) : a.take (cpl a b) ++ ((b.take (b.length - csl a b)).drop (cpl a b) ++ a.drop (a.length - csl a b)) = b := by
  have hl := csl_le a b
  have h1 := cpl_take (a.drop (cpl a b)).reverse (b.drop (cpl a b)).reverse
  have h2 := drop_rev _ _ _ h1
  change List.drop ((a.drop (cpl a b)).length - csl a b) _ = List.drop ((b.drop (cpl a b)).length - csl a b) _ at h2
  rw [List.drop_drop, List.drop_drop, List.length_drop, List.length_drop] at h2
  rw [show cpl a b + (a.length - cpl a b - csl a b) = a.length - csl a b from by omega, show cpl a b + (b.length - cpl a b - csl a b) = b.length - csl a b from by omega] at h2
  rw [cpl_take, h2]
  have e3 : b.take (cpl a b) = (b.take (b.length - csl a b)).take (cpl a b) := by rw [List.take_take, Nat.min_eq_left (by omega)]
  rw [e3, ← List.append_assoc, List.take_append_drop, List.take_append_drop]
end Go.Proofs.Ytgihfnnffailiaa
