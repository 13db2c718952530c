/- What is proved: plain facts on the tokens of a list of bytes. -/
import Derived.Test.YtnpcfmoiiecadaaDoorLxScan5
import Derived.Maps.AppendAt
set_option linter.unusedVariables false
namespace Go.Proofs.YtnpcfmoiiecadaaDoor.Lx
open Go.RowKit

/-- a token -/
structure Tok where
  kind : Int
  lo : Int
  at_ : Int
  hi : Int
  deriving DecidableEq
def tokV (t : Tok) : Value := .agg #[.int .i64 t.kind, .int .i64 t.lo, .int .i64 t.at_, .int .i64 t.hi]

/-- the token behind a place -/
def nextTok (l : List UInt8) (i : Nat) : Tok := ⟨((tokAt l (blank l i)).1 : Nat), i, (blank l i : Nat), ((tokAt l (blank l i)).2 : Nat)⟩

theorem blank_bd (l : List UInt8) (i : Nat) (hi : i ≤ l.length) : i ≤ blank l i ∧ blank l i ≤ l.length := blk_bd l _ i hi
theorem sym_bd (l : List UInt8) (i : Nat) (hi : i < l.length) : i + sym l i ≤ l.length := by
  unfold sym
  split
  · rename_i h
    unfold two at h
    simp at h
    omega
  · split <;> omega
theorem tokAt_bd (l : List UInt8) (i : Nat) (hi : i ≤ l.length) : i ≤ (tokAt l i).2 ∧ (tokAt l i).2 ≤ l.length := by
  unfold tokAt
  split
  · exact ⟨Nat.le_refl _, hi⟩
  · split
    · exact run_bd l inName i hi
    · split
      · exact run_bd l digit i hi
      · split
        · exact ⟨by show i ≤ i + sym l i; omega, sym_bd l i (by omega)⟩
        · have := whl_bd (wrongAt l) (l.length - i) i
          exact ⟨by show i ≤ wrongTo l i; unfold wrongTo; omega, by show wrongTo l i ≤ l.length; unfold wrongTo; omega⟩

theorem grownBy_of_below {w w' : World} (h : Below w.heap.size w w') (row : Option Nat) : w.grownBy w' row := ⟨h.os, h.tape, h.output, h.size, fun k hk _ => h.block k hk⟩
theorem grownBy_setCell {w : World} {p : Addr} (u : Value) : w.grownBy (w.setCell p u) (some p.block) :=
  ⟨rfl, rfl, rfl, by simp [World.setCell], fun k hk hne => Below.heap_setCell w p u k (fun e => hne (by rw [e]))⟩

theorem cells4 {w : World} {g : Nat} {E : TypeId} {a b c d : Value} (h : w.heap[g]? = some (.cells #[a, b, c, d] E (0, 0))) : w.cell? ⟨g, 0, none⟩ = some a ∧ w.cell? ⟨g, 1, none⟩ = some b ∧ w.cell? ⟨g, 2, none⟩ = some c ∧ w.cell? ⟨g, 3, none⟩ = some d ∧ w.frozen? ⟨g, 0, none⟩ = false := by simp [World.cell?, World.frozen?, h]

theorem KwMap.lt {w : World} {b : Nat} (h : KwMap w b) : b < w.heap.size := by
  obtain ⟨n, h⟩ := h
  exact h.lt
theorem KwMap.kept {w w' : World} {b : Nat} {row : Option Nat} (h : KwMap w b) (hg : w.grownBy w' row) (hne : some b ≠ row) : KwMap w' b := by
  obtain ⟨n, h⟩ := h
  exact ⟨n, h.kept hg hne⟩
end Go.Proofs.YtnpcfmoiiecadaaDoor.Lx
set_option linter.unusedVariables false
namespace Go.Proofs.YtnpcfmoiiecadaaDoor.Lx
open Go.RowKit

/-- behind blanks there is neither white space nor a comment -/
theorem blk_stop (l : List UInt8) : ∀ f i, i ≤ l.length → l.length - i < f → blk l f i < l.length → white (at_ l (blk l f i)) = false ∧ at_ l (blk l f i) ≠ 35 := by
  intro f
  induction f with
  | zero => intro i h1 h2; omega
  | succ f ih =>
    intro i h1 h2 h3
    rw [blk_step] at h3 ⊢
    have a := run_bd l white i h1
    split at h3
    · rename_i h
      rw [if_pos h]
      have hne : at_ l (run l white i) ≠ 35 := by
        rcases h with h | h
        · omega
        · exact h
      refine ⟨?_, hne⟩
      have := whl_stop (fun j => white (at_ l j)) (l.length - i) i (by unfold run at h3; omega)
      exact this
    · rename_i h
      rw [if_neg h]
      have hlt : run l white i < l.length := by
        rcases Nat.lt_or_ge (run l white i) l.length with h' | h'
        · exact h'
        · exact absurd (.inl (by omega)) h
      have h35 : at_ l (run l white i) = 35 := by
        rcases Classical.em (at_ l (run l white i) = 35) with e | e
        · exact e
        · exact absurd (.inr e) h
      have b := run_yes l notNl (run l white i) hlt (by rw [h35]; rfl)
      have c := run_bd l notNl (run l white i) a.2
      exact ih _ c.2 (by omega) h3
theorem blank_stop (l : List UInt8) (i : Nat) (hi : i ≤ l.length) (h : blank l i < l.length) : white (at_ l (blank l i)) = false ∧ at_ l (blank l i) ≠ 35 :=
  blk_stop l _ i hi (by omega) h

theorem tokAt_end (l : List UInt8) (i : Nat) (hi : i ≤ l.length) : ((tokAt l i).1 = 5 ↔ i = l.length) := by
  unfold tokAt
  constructor
  · intro h
    split at h
    · assumption
    · split at h
      · simp only at h
        split at h <;> omega
      · split at h
        · simp at h
        · split at h <;> simp at h
  · intro h
    rw [if_pos h]
theorem tokAt_le (l : List UInt8) (i : Nat) : (tokAt l i).1 ≤ 5 := by
  unfold tokAt
  split
  · simp
  · split
    · simp only
      split <;> omega
    · split
      · simp
      · split <;> simp
theorem inName_letter (b : UInt8) (h : letter b = true) : inName b = true := by unfold inName; rw [h]; rfl
theorem tokAt_more (l : List UInt8) (i : Nat) (hi : i < l.length) (h1 : white (at_ l i) = false) (h2 : at_ l i ≠ 35) : i < (tokAt l i).2 := by
  unfold tokAt
  rw [if_neg (by omega)]
  split
  · rename_i h
    exact run_yes l inName i hi (inName_letter _ h)
  · split
    · rename_i h
      exact run_yes l digit i hi h
    · split
      · show i < i + sym l i
        omega
      · rename_i n1 n2 n3
        show i < wrongTo l i
        unfold wrongTo
        have hw : wrongAt l i = true := by
          unfold wrongAt
          rw [h1, show (at_ l i != 35) = true from by simpa using h2, show letter (at_ l i) = false from by simpa using n1, show digit (at_ l i) = false from by simpa using n2, show sym l i = 0 from by omega]
          rfl
        rw [whl_yes _ _ _ hi hw]
        have := whl_bd (wrongAt l) (l.length - (i + 1)) (i + 1)
        omega

theorem nextTok_end (l : List UInt8) (i : Nat) (hi : i ≤ l.length) : (nextTok l i).kind = 5 ↔ blank l i = l.length := by
  have := tokAt_end l (blank l i) (blank_bd l i hi).2
  unfold nextTok
  constructor
  · intro h
    exact this.1 (by have h' : ((tokAt l (blank l i)).1 : Int) = 5 := h; omega)
  · intro h
    show ((tokAt l (blank l i)).1 : Int) = 5
    rw [this.2 h]
    rfl
theorem nextTok_more (l : List UInt8) (i : Nat) (hi : i ≤ l.length) (h : (nextTok l i).kind ≠ 5) : (blank l i : Int) < (nextTok l i).hi := by
  have hb := blank_bd l i hi
  have hlt : blank l i < l.length := by
    rcases Nat.lt_or_ge (blank l i) l.length with h' | h'
    · exact h'
    · exact absurd ((nextTok_end l i hi).2 (by omega)) h
  have s := blank_stop l i hi hlt
  have := tokAt_more l (blank l i) hlt s.1 s.2
  show (blank l i : Int) < ((tokAt l (blank l i)).2 : Nat)
  omega
theorem nextTok_bd (l : List UInt8) (i : Nat) (hi : i ≤ l.length) : (i : Int) ≤ (nextTok l i).at_ ∧ (nextTok l i).at_ ≤ (nextTok l i).hi ∧ (nextTok l i).hi ≤ l.length ∧ 0 ≤ (nextTok l i).kind ∧ (nextTok l i).kind ≤ 5 ∧ (nextTok l i).lo = i := by
  have a := blank_bd l i hi
  have b := tokAt_bd l (blank l i) a.2
  have c := tokAt_le l (blank l i)
  unfold nextTok
  refine ⟨?_, ?_, ?_, ?_, ?_, rfl⟩ <;> simp only <;> omega

/-- the tokens from a place on -/
def scanTo (l : List UInt8) : Nat → Nat → List Tok
  | 0, _ => []
  | f + 1, i => nextTok l i :: if (nextTok l i).kind = 5 then [] else scanTo l f (nextTok l i).hi.toNat
theorem scanTo_step (l : List UInt8) (f i : Nat) : scanTo l (f + 1) i = nextTok l i :: if (nextTok l i).kind = 5 then [] else scanTo l f (nextTok l i).hi.toNat := rfl
theorem scanTo_fuel (l : List UInt8) : ∀ f g i, i ≤ l.length → l.length - i < f → l.length - i < g → scanTo l f i = scanTo l g i := by
  intro f
  induction f with
  | zero => intro g i h1 h2; omega
  | succ f ih =>
    intro g i h1 h2 h3
    obtain ⟨g', rfl⟩ : ∃ g', g = g' + 1 := ⟨g - 1, by omega⟩
    rw [scanTo_step, scanTo_step]
    split
    · rfl
    · rename_i h
      have a := nextTok_bd l i h1
      have b := nextTok_more l i h1 h
      have c := blank_bd l i h1
      rw [ih g' _ (by omega) (by omega) (by omega)]
/-- the tokens of a text -/
def scan (l : List UInt8) : List Tok := scanTo l (l.length + 1) 0
end Go.Proofs.YtnpcfmoiiecadaaDoor.Lx
