/- What is proved: the plain functions that the scanner computes, on lists of bytes (no program is spoken of). -/
set_option linter.unusedVariables false
namespace Go.Proofs.YtnpcfmoiiecadaaDoor.Lx

def white (b : UInt8) : Bool := b == 9 || b == 10 || b == 13 || b == 32
def letter (b : UInt8) : Bool := 97 ≤ b.toNat && b.toNat ≤ 122
def digit (b : UInt8) : Bool := 48 ≤ b.toNat && b.toNat ≤ 57
def inName (b : UInt8) : Bool := letter b || digit b || b == 95

/-- the first place from i on, at most f further, where p fails -/
def whl (p : Nat → Bool) : Nat → Nat → Nat
  | 0, i => i
  | f + 1, i => if p i then whl p f (i + 1) else i

theorem whl_bd (p : Nat → Bool) : ∀ f i, i ≤ whl p f i ∧ whl p f i ≤ i + f := by
  intro f
  induction f with
  | zero => intro i; simp [whl]
  | succ f ih =>
    intro i
    unfold whl
    split
    · have := ih (i + 1); omega
    · omega
theorem whl_yes (p : Nat → Bool) (n i : Nat) (hi : i < n) (h : p i = true) : whl p (n - i) i = whl p (n - (i + 1)) (i + 1) := by
  obtain ⟨f, hf⟩ : ∃ f, n - i = f + 1 := ⟨n - i - 1, by omega⟩
  rw [hf, show n - (i + 1) = f from by omega]
  simp [whl, h]
theorem whl_no (p : Nat → Bool) (f i : Nat) (h : p i = false) : whl p f i = i := by
  cases f with
  | zero => rfl
  | succ f => simp [whl, h]
theorem whl_end (p : Nat → Bool) (n i : Nat) (hi : ¬ i < n) : whl p (n - i) i = i := by
  rw [show n - i = 0 from by omega]
  rfl
theorem whl_all (p : Nat → Bool) : ∀ f i j, i ≤ j → j < whl p f i → p j = true := by
  intro f
  induction f with
  | zero => intro i j h1 h2; simp [whl] at h2; omega
  | succ f ih =>
    intro i j h1 h2
    unfold whl at h2
    split at h2
    · rename_i h
      by_cases e : j = i
      · rw [e]; exact h
      · exact ih (i + 1) j (by omega) h2
    · omega
theorem whl_stop (p : Nat → Bool) : ∀ f i, whl p f i < i + f → p (whl p f i) = false := by
  intro f
  induction f with
  | zero => intro i h; simp [whl] at h
  | succ f ih =>
    intro i h
    unfold whl at h ⊢
    split at h
    · rename_i hp
      rw [if_pos hp]
      exact ih (i + 1) (by omega)
    · rename_i hp
      rw [if_neg hp]
      simpa using hp
theorem whl_congr (p q : Nat → Bool) : ∀ f i, (∀ j, i ≤ j → j < i + f → p j = q j) → whl p f i = whl q f i := by
  intro f
  induction f with
  | zero => intro i _; rfl
  | succ f ih =>
    intro i h
    unfold whl
    rw [h i (Nat.le_refl _) (by omega), ih (i + 1) (fun j h1 h2 => h j (by omega) (by omega))]

/-- the byte at a place; 0 behind the end -/
def at_ (l : List UInt8) (i : Nat) : UInt8 := l.getD i 0

def run (l : List UInt8) (p : UInt8 → Bool) (i : Nat) : Nat := whl (fun j => p (at_ l j)) (l.length - i) i
theorem run_bd (l : List UInt8) (p : UInt8 → Bool) (i : Nat) (hi : i ≤ l.length) : i ≤ run l p i ∧ run l p i ≤ l.length := by
  have := whl_bd (fun j => p (at_ l j)) (l.length - i) i
  unfold run
  omega
theorem run_yes (l : List UInt8) (p : UInt8 → Bool) (i : Nat) (hi : i < l.length) (h : p (at_ l i) = true) : i < run l p i := by
  unfold run
  rw [whl_yes _ _ _ hi h]
  have := whl_bd (fun j => p (at_ l j)) (l.length - (i + 1)) (i + 1)
  omega

def notNl (b : UInt8) : Bool := b != 10

/-- behind white space and comments -/
def blk (l : List UInt8) : Nat → Nat → Nat
  | 0, i => i
  | f + 1, i => if run l white i = l.length ∨ at_ l (run l white i) ≠ 35 then run l white i else blk l f (run l notNl (run l white i))

theorem blk_step (l : List UInt8) (f i : Nat) : blk l (f + 1) i = if run l white i = l.length ∨ at_ l (run l white i) ≠ 35 then run l white i else blk l f (run l notNl (run l white i)) := rfl
theorem blk_bd (l : List UInt8) : ∀ f i, i ≤ l.length → i ≤ blk l f i ∧ blk l f i ≤ l.length := by
  intro f
  induction f with
  | zero => intro i h; exact ⟨Nat.le_refl _, h⟩
  | succ f ih =>
    intro i h
    have a := run_bd l white i h
    have b := run_bd l notNl (run l white i) a.2
    have c := ih _ b.2
    rw [blk_step]
    split <;> omega
/-- enough fuel: one more changes nothing -/
theorem blk_more (l : List UInt8) : ∀ f i, i ≤ l.length → l.length - i < f → blk l f i = blk l (l.length + 1) i := by
  have key : ∀ f g i, i ≤ l.length → l.length - i < f → l.length - i < g → blk l f i = blk l g i := by
    intro f
    induction f with
    | zero => intro g i h1 h2 h3; omega
    | succ f ih =>
      intro g i h1 h2 h3
      obtain ⟨g', rfl⟩ : ∃ g', g = g' + 1 := ⟨g - 1, by omega⟩
      rw [blk_step, blk_step]
      split
      · rfl
      · rename_i h
        have a := run_bd l white i h1
        have hlt : run l white i < l.length := by
          rcases Nat.lt_or_ge (run l white i) l.length with h' | h'
          · exact h'
          · exact absurd (.inl (by omega)) h
        have h35 : at_ l (run l white i) = 35 := by
          rcases Classical.em (at_ l (run l white i) = 35) with e | e
          · exact e
          · exact absurd (.inr e) h
        have b := run_yes l notNl (run l white i) hlt (by rw [h35]; rfl)
        have c := run_bd l notNl (run l white i) a.2
        exact ih g' _ c.2 (by omega) (by omega)
  intro f i h1 h2
  exact key f _ i h1 h2 (by omega)
def blank (l : List UInt8) (i : Nat) : Nat := blk l (l.length + 1) i

def symB (b : UInt8) : Bool := ([60, 62, 61, 43, 45, 42, 47, 37, 40, 41, 123, 125, 91, 93, 44, 59, 58, 46] : List UInt8).contains b
def two (l : List UInt8) (i : Nat) : Bool := at_ l (i + 1) == 61 && (at_ l i == 61 || at_ l i == 33 || at_ l i == 60 || at_ l i == 62) && decide (i + 1 < l.length)
/-- the length of the symbol at a place -/
def sym (l : List UInt8) (i : Nat) : Nat := if two l i then 2 else if symB (at_ l i) then 1 else 0
def wrongAt (l : List UInt8) (i : Nat) : Bool := !white (at_ l i) && at_ l i != 35 && !letter (at_ l i) && !digit (at_ l i) && sym l i == 0
end Go.Proofs.YtnpcfmoiiecadaaDoor.Lx
