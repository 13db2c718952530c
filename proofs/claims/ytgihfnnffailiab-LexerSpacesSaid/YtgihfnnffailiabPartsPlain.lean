/- What is proved: plain facts: where tokens of a list of bytes stand again in another list; the tokens of two lists with a line feed between them. -/
import Derived.Test.YtgihfnnffailiabTokPlain
set_option linter.unusedVariables false
namespace Go.Proofs.Ytgihfnnffailiab
open Go.RowKit

theorem at_out (l : List UInt8) (i : Nat) (h : l.length ≤ i) : at_ l i = 0 := by
  unfold at_
  rw [List.getD_eq_getElem?_getD, List.getElem?_eq_none h]
  rfl
theorem at_left (l m : List UInt8) (i : Nat) (h : i < l.length) : at_ (l ++ m) i = at_ l i := by
  unfold at_
  rw [List.getD_eq_getElem?_getD, List.getD_eq_getElem?_getD, List.getElem?_append_left h]
theorem at_right (l m : List UInt8) (i : Nat) : at_ (l ++ m) (l.length + i) = at_ m i := by
  unfold at_
  rw [List.getD_eq_getElem?_getD, List.getD_eq_getElem?_getD, List.getElem?_append_right (by omega)]
  congr 2
  omega

/-- where a run ends, told by its bytes -/
theorem whl_is (p : Nat → Bool) : ∀ f i e, i ≤ e → e ≤ i + f → (∀ j, i ≤ j → j < e → p j = true) → (e < i + f → p e = false) → whl p f i = e := by
  intro f
  induction f with
  | zero => intro i e h1 h2 _ _; simp only [whl]; omega
  | succ f ih =>
    intro i e h1 h2 h3 h4
    unfold whl
    by_cases he : i = e
    · subst he
      rw [h4 (by omega)]
      rfl
    · rw [h3 i (Nat.le_refl _) (by omega), if_pos rfl]
      exact ih (i + 1) e (by omega) (by omega) (fun j a b => h3 j (by omega) b) (fun h => h4 (by omega))
theorem run_is (l : List UInt8) (p : UInt8 → Bool) (i e : Nat) (h1 : i ≤ e) (h2 : e ≤ l.length) (h3 : ∀ j, i ≤ j → j < e → p (at_ l j) = true) (h4 : e < l.length → p (at_ l e) = false) : run l p i = e :=
  whl_is _ _ _ _ h1 (by omega) h3 (fun h => h4 (by omega))
theorem run_all (l : List UInt8) (p : UInt8 → Bool) (i j : Nat) (h1 : i ≤ j) (h2 : j < run l p i) : p (at_ l j) = true := whl_all (fun j => p (at_ l j)) _ i j h1 h2
theorem run_stop (l : List UInt8) (p : UInt8 → Bool) (i : Nat) (hi : i ≤ l.length) (h : run l p i < l.length) : p (at_ l (run l p i)) = false := whl_stop (fun j => p (at_ l j)) _ i (by unfold run at h; omega)

theorem white_not (b : UInt8) (h : white b = true) : inName b = false ∧ digit b = false ∧ letter b = false ∧ b ≠ 61 ∧ symB b = false := by
  unfold white at h
  simp only [Bool.or_eq_true, beq_iff_eq] at h
  rcases h with ((h | h) | h) | h <;> subst h <;> decide
theorem wrong_white (l : List UInt8) (i : Nat) (h : white (at_ l i) = true) : wrongAt l i = false := by
  unfold wrongAt
  rw [h]
  rfl

/-- a token of l at i stands in m at i', if the same bytes stand there and what follows them ends it -/
theorem two_move (l m : List UInt8) (i i' : Nat) (h0 : at_ m i' = at_ l i) (h1 : at_ m (i' + 1) = 61 ↔ at_ l (i + 1) = 61) : two m i' = two l i := by
  have a : ∀ (x : List UInt8) (k : Nat), (at_ x (k + 1) = 61 ∧ k + 1 < x.length) ↔ at_ x (k + 1) = 61 := by
    intro x k
    constructor
    · exact fun h => h.1
    · intro h
      refine ⟨h, ?_⟩
      rcases Nat.lt_or_ge (k + 1) x.length with h' | h'
      · exact h'
      · rw [at_out x _ h'] at h
        exact absurd h (by decide)
  have b : ∀ (x : List UInt8) (k : Nat), two x k = (decide (at_ x (k + 1) = 61) && (at_ x k == 61 || at_ x k == 33 || at_ x k == 60 || at_ x k == 62)) := by
    intro x k
    have := a x k
    unfold two
    by_cases h : at_ x (k + 1) = 61
    · have h2 := (this.2 h).2
      simp [h, h2]
    · simp [h]
  rw [b, b, h0]
  congr 1
  exact decide_eq_decide.2 h1
theorem sym_move (l m : List UInt8) (i i' : Nat) (h0 : at_ m i' = at_ l i) (h1 : at_ m (i' + 1) = 61 ↔ at_ l (i + 1) = 61) : sym m i' = sym l i := by
  unfold sym
  rw [two_move l m i i' h0 h1, h0]
theorem wrong_move (l m : List UInt8) (i i' : Nat) (h0 : at_ m i' = at_ l i) (h1 : at_ m (i' + 1) = 61 ↔ at_ l (i + 1) = 61) : wrongAt m i' = wrongAt l i := by
  unfold wrongAt
  rw [sym_move l m i i' h0 h1, h0]
theorem wrong_sym0 (l : List UInt8) (i : Nat) (h : wrongAt l i = true) : sym l i = 0 := by
  unfold wrongAt at h
  simp at h
  exact h.2
theorem wrongTo_bd (l : List UInt8) (i : Nat) (hi : i ≤ l.length) : i ≤ wrongTo l i ∧ wrongTo l i ≤ l.length := by
  have := whl_bd (wrongAt l) (l.length - i) i
  unfold wrongTo
  omega

theorem take_drop_eq (l m : List UInt8) (i i' n : Nat) (hl : i + n ≤ l.length) (hm : i' + n ≤ m.length) (hag : ∀ j, j < n → at_ m (i' + j) = at_ l (i + j)) : (m.take (i' + n)).drop i' = (l.take (i + n)).drop i := by
  apply List.ext_getElem
  · simp
    omega
  · intro j h1 h2
    have hj : j < n := by simp at h1; omega
    have := hag j hj
    unfold at_ at this
    rw [List.getD_eq_getElem?_getD, List.getD_eq_getElem?_getD, List.getElem?_eq_getElem (by omega), List.getElem?_eq_getElem (by omega)] at this
    simpa using this

/-- what follows ends every token that it ended before -/
def Ends (l m : List UInt8) (e e' : Nat) : Prop := e' < m.length → white (at_ m e') = true ∨ (e < l.length ∧ at_ m e' = at_ l e ∧ (wrongAt l e = false → wrongAt m e' = false))

theorem tokAt_move (l m : List UInt8) (i i' n k : Nat) (h : tokAt l i = (k, i + n)) (hn : 0 < n) (hl : i + n ≤ l.length) (hm : i' + n ≤ m.length)
    (hag : ∀ j, j < n → at_ m (i' + j) = at_ l (i + j)) (hC : Ends l m (i + n) (i' + n)) : tokAt m i' = (k, i' + n) := by
  have hz : at_ m i' = at_ l i := hag 0 hn
  have eqm := take_drop_eq l m i i' n hl hm hag
  have go : ∀ (p : UInt8 → Bool), (∀ b, white b = true → p b = false) → run l p i = i + n → run m p i' = i' + n := by
    intro p hp hr
    refine run_is m p i' (i' + n) (by omega) hm ?_ ?_
    · intro j h1 h2
      have e := hag (j - i') (by omega)
      rw [show i' + (j - i') = j from by omega] at e
      rw [e]
      exact run_all l p i _ (by omega) (by omega)
    · intro hlt
      rcases hC hlt with hw | ⟨h1, h2, _⟩
      · exact hp _ hw
      · rw [h2, ← hr]
        exact run_stop l p i (by omega) (by omega)
  unfold tokAt at h ⊢
  rw [if_neg (by omega)] at h
  rw [if_neg (by omega), hz]
  by_cases c1 : letter (at_ l i) = true
  · rw [if_pos c1] at h ⊢
    have hr : run l inName i = i + n := (Prod.mk.inj h).2
    have hk := (Prod.mk.inj h).1
    rw [hr] at hk
    rw [go inName (fun b hb => (white_not b hb).1) hr, eqm, hk]
  · rw [if_neg c1] at h ⊢
    by_cases c2 : digit (at_ l i) = true
    · rw [if_pos c2] at h ⊢
      have hr : run l digit i = i + n := (Prod.mk.inj h).2
      have hk := (Prod.mk.inj h).1
      rw [go digit (fun b hb => (white_not b hb).2.1) hr, hk]
    · rw [if_neg c2] at h ⊢
      have nxt : n = 1 → (at_ m (i' + 1) = 61 → at_ l (i + 1) = 61) := by
        intro h1 h61
        have hlt : i' + n < m.length := by
          rcases Nat.lt_or_ge (i' + n) m.length with h' | h'
          · exact h'
          · rw [at_out m (i' + 1) (by omega)] at h61
            exact absurd h61 (by decide)
        subst h1
        rcases hC hlt with hw | ⟨_, h2, _⟩
        · rw [h61] at hw
          exact absurd hw (by decide)
        · rw [← h2]; exact h61
      by_cases c3 : 0 < sym l i
      · rw [if_pos c3] at h
        have hs : sym l i = n := by have := (Prod.mk.inj h).2; omega
        have hk := (Prod.mk.inj h).1
        have e : sym m i' = sym l i := by
          unfold sym at hs ⊢
          by_cases t : two l i = true
          · rw [if_pos t] at hs ⊢
            have t2 : two m i' = true := by
              unfold two at t ⊢
              have e1 := hag 1 (by omega)
              rw [e1, hz]
              simp only [Bool.and_eq_true, decide_eq_true_eq] at t ⊢
              exact ⟨t.1, by omega⟩
            rw [if_pos t2]
          · rw [if_neg t] at hs ⊢
            have n1 : n = 1 := by split at hs <;> omega
            have t2 : two m i' = false := by
              cases q : two m i' with
              | false => rfl
              | true =>
                refine absurd ?_ t
                unfold two at q ⊢
                simp only [Bool.and_eq_true, decide_eq_true_eq, beq_iff_eq] at q ⊢
                have x := nxt n1 q.1.1
                refine ⟨⟨x, by rw [← hz]; exact q.1.2⟩, ?_⟩
                rcases Nat.lt_or_ge (i + 1) l.length with h' | h'
                · exact h'
                · rw [at_out l _ h'] at x
                  exact absurd x (by decide)
            rw [t2, hz]
            rfl
        rw [e, if_pos c3, hs, hk]
      · rw [if_neg c3] at h
        have hw : wrongTo l i = i + n := (Prod.mk.inj h).2
        have hk := (Prod.mk.inj h).1
        have all : ∀ j, i ≤ j → j < i + n → wrongAt l j = true := fun j h1 h2 => whl_all (wrongAt l) (l.length - i) i j h1 (by unfold wrongTo at hw; omega)
        have each : ∀ j, j < n → wrongAt m (i' + j) = true := by
          intro j hj
          have hb := all (i + j) (by omega) (by omega)
          by_cases hj1 : j + 1 < n
          · rw [wrong_move l m (i + j) (i' + j) (hag j hj) (by rw [show i' + j + 1 = i' + (j + 1) from by omega, show i + j + 1 = i + (j + 1) from by omega, hag (j + 1) hj1])]
            exact hb
          · -- the last byte: what follows is no equals sign that was not there
            have hjn : j + 1 = n := by omega
            have s0 := wrong_sym0 l _ hb
            have sm : sym m (i' + j) = 0 := by
              unfold sym at s0 ⊢
              by_cases t : two l (i + j) = true
              · rw [if_pos t] at s0; omega
              · rw [if_neg t] at s0
                have t2 : two m (i' + j) = false := by
                  cases q : two m (i' + j) with
                  | false => rfl
                  | true =>
                    refine absurd ?_ t
                    unfold two at q ⊢
                    simp only [Bool.and_eq_true, decide_eq_true_eq, beq_iff_eq] at q ⊢
                    have hlt : i' + n < m.length := by omega
                    have q1 := q.1.1
                    rw [show i' + j + 1 = i' + n from by omega] at q1
                    rcases hC hlt with hw' | ⟨h1, h2, _⟩
                    · rw [q1] at hw'
                      exact absurd hw' (by decide)
                    · refine ⟨⟨by rw [show i + j + 1 = i + n from by omega, ← h2]; exact q1, by rw [← hag j hj]; exact q.1.2⟩, by omega⟩
                rw [t2, hag j hj]
                exact s0
            unfold wrongAt at hb ⊢
            rw [hag j hj, sm]
            rw [s0] at hb
            exact hb
        have sm0 : sym m i' = 0 := wrong_sym0 m i' (each 0 hn)
        rw [if_neg (by omega), hk]
        refine Prod.ext rfl ?_
        show whl (wrongAt m) (m.length - i') i' = i' + n
        refine whl_is _ _ _ _ (by omega) (by omega) ?_ ?_
        · intro j h1 h2
          have := each (j - i') (by omega)
          rwa [show i' + (j - i') = j from by omega] at this
        · intro hlt
          rcases hC (by omega) with hw' | ⟨h1, h2, h3⟩
          · exact wrong_white m _ hw'
          · apply h3
            rw [← hw]
            exact whl_stop (wrongAt l) (l.length - i) i (by unfold wrongTo at hw; omega)

/-- a front of bytes only moves the tokens -/
theorem run_shift (p u : List UInt8) (q : UInt8 → Bool) (i : Nat) (hi : i ≤ u.length) : run (p ++ u) q (p.length + i) = p.length + run u q i := by
  have b := run_bd u q i hi
  refine run_is _ _ _ _ (by omega) (by simp; omega) ?_ ?_
  · intro j h1 h2
    rw [show j = p.length + (j - p.length) from by omega, at_right]
    exact run_all u q i _ (by omega) (by omega)
  · intro h
    rw [at_right]
    exact run_stop u q i hi (by simp at h; omega)
theorem blk_shift (p u : List UInt8) : ∀ f i, i ≤ u.length → blk (p ++ u) f (p.length + i) = p.length + blk u f i := by
  intro f
  induction f with
  | zero => intro i _; rfl
  | succ f ih =>
    intro i hi
    have b := run_bd u white i hi
    have c := run_bd u notNl _ b.2
    rw [blk_step, blk_step, run_shift p u white i hi, at_right, run_shift p u notNl _ b.2]
    by_cases h : run u white i = u.length ∨ at_ u (run u white i) ≠ 35
    · rw [if_pos h, if_pos]
      rcases h with h | h
      · left; simp; omega
      · right; exact h
    · rw [if_neg h, if_neg, ih _ c.2]
      intro h'
      apply h
      rcases h' with h' | h'
      · left; simp at h'; omega
      · right; exact h'
theorem blank_shift (p u : List UInt8) (i : Nat) (hi : i ≤ u.length) : blank (p ++ u) (p.length + i) = p.length + blank u i := by
  unfold blank
  rw [← blk_more (p ++ u) (u.length + 1 + p.length) (p.length + i) (by simp; omega) (by simp; omega), blk_shift p u _ i hi, blk_more u _ i hi (by omega)]

theorem wrong_shift (p u : List UInt8) (i : Nat) : wrongAt (p ++ u) (p.length + i) = wrongAt u i :=
  wrong_move u (p ++ u) i (p.length + i) (at_right p u i) (by rw [show p.length + i + 1 = p.length + (i + 1) from by omega, at_right])
theorem tokAt_shift (p u : List UInt8) (i : Nat) (hi : i ≤ u.length) (hw : i < u.length → white (at_ u i) = false ∧ at_ u i ≠ 35) : tokAt (p ++ u) (p.length + i) = ((tokAt u i).1, p.length + (tokAt u i).2) := by
  by_cases h : i = u.length
  · unfold tokAt
    rw [if_pos (by simp; omega), if_pos h]
  · have hlt : i < u.length := by omega
    have hm := tokAt_more u i hlt (hw hlt).1 (hw hlt).2
    have hb := tokAt_bd u i hi
    have e := tokAt_move u (p ++ u) i (p.length + i) ((tokAt u i).2 - i) (tokAt u i).1 (by rw [show i + ((tokAt u i).2 - i) = (tokAt u i).2 from by omega]) (by omega) (by omega) (by simp; omega)
      (fun j hj => by rw [show p.length + i + j = p.length + (i + j) from by omega, at_right])
      (fun hh => .inr ⟨by simp at hh; omega, by rw [show p.length + i + ((tokAt u i).2 - i) = p.length + (i + ((tokAt u i).2 - i)) from by omega, at_right], fun hx => by rw [show p.length + i + ((tokAt u i).2 - i) = p.length + (i + ((tokAt u i).2 - i)) from by omega, wrong_shift]; exact hx⟩)
    rw [e]
    refine Prod.ext rfl ?_
    simp only
    omega

def shiftT (n : Nat) (t : Tok) : Tok := ⟨t.kind, t.lo + n, t.at_ + n, t.hi + n⟩
theorem nextTok_shift (p u : List UInt8) (i : Nat) (hi : i ≤ u.length) : nextTok (p ++ u) (p.length + i) = shiftT p.length (nextTok u i) := by
  have b := blank_bd u i hi
  unfold nextTok shiftT
  rw [blank_shift p u i hi, tokAt_shift p u (blank u i) b.2 (blank_stop u i hi)]
  simp only [Tok.mk.injEq, true_and]
  refine ⟨?_, ?_, ?_⟩ <;> omega
theorem scanTo_shift (p u : List UInt8) : ∀ f i, i ≤ u.length → scanTo (p ++ u) f (p.length + i) = (scanTo u f i).map (shiftT p.length) := by
  intro f
  induction f with
  | zero => intro i _; rfl
  | succ f ih =>
    intro i hi
    have b := nextTok_bd u i hi
    rw [scanTo_step, scanTo_step, nextTok_shift p u i hi, List.map_cons]
    congr 1
    have k : (shiftT p.length (nextTok u i)).kind = (nextTok u i).kind := rfl
    have e : (shiftT p.length (nextTok u i)).hi.toNat = p.length + (nextTok u i).hi.toNat := by
      show ((nextTok u i).hi + (p.length : Int)).toNat = _
      omega
    rw [k, e]
    split
    · rfl
    · exact ih _ (by omega)

/-- the first byte is white: it is skipped -/
theorem blank_white (l : List UInt8) (i : Nat) (hi : i < l.length) (h : white (at_ l i) = true) : blank l i = blank l (i + 1) := by
  have e : run l white i = run l white (i + 1) := by
    unfold run
    exact whl_yes (fun j => white (at_ l j)) _ _ hi h
  unfold blank
  rw [blk_step, blk_step, e]
theorem blank_here (l : List UInt8) (i : Nat) (h : i < l.length → white (at_ l i) = false ∧ at_ l i ≠ 35) (hi : i ≤ l.length) : blank l i = i := by
  have e : run l white i = i := run_is l white i i (Nat.le_refl _) hi (fun j a b => by omega) (fun a => (h a).1)
  unfold blank
  rw [blk_step, e, if_pos]
  by_cases hh : i = l.length
  · exact .inl hh
  · exact .inr (h (by omega)).2

/-- blanks of a, seen in a ++ line feed ++ b -/
theorem blk_parts (a b : List UInt8) : ∀ f i, i ≤ a.length → a.length - i < f → blank (a ++ 10 :: b) i = if blk a f i < a.length then blk a f i else blank (a ++ 10 :: b) (a.length + 1) := by
  intro f
  induction f with
  | zero => intro i h1 h2; omega
  | succ f ih =>
    intro i h1 h2
    have hc : (a ++ 10 :: b).length = a.length + 1 + b.length := by simp; omega
    have h10 : at_ (a ++ 10 :: b) a.length = 10 := at_right a (10 :: b) 0
    have r := run_bd a white i h1
    have re : run (a ++ 10 :: b) white i = if run a white i < a.length then run a white i else run (a ++ 10 :: b) white (a.length + 1) := by
      split
      · rename_i hlt
        refine run_is _ _ _ _ r.1 (by omega) ?_ ?_
        · intro j x y
          rw [at_left _ _ _ (by omega)]
          exact run_all a white i j x y
        · intro _
          rw [at_left _ _ _ hlt]
          exact run_stop a white i h1 hlt
      · rename_i hge
        have q := run_bd (a ++ 10 :: b) white (a.length + 1) (by omega)
        refine run_is _ _ _ _ (by omega) q.2 ?_ ?_
        · intro j x y
          by_cases jl : j < a.length
          · rw [at_left _ _ _ jl]
            exact run_all a white i j x (by omega)
          · by_cases je : j = a.length
            · rw [je, h10]; rfl
            · exact run_all _ white (a.length + 1) j (by omega) y
        · intro x
          exact run_stop _ white (a.length + 1) (by omega) x
    have bs := blk_step a f i
    by_cases hlt : run a white i < a.length
    · rw [if_pos hlt] at re
      have e35 : at_ (a ++ 10 :: b) (run a white i) = at_ a (run a white i) := at_left _ _ _ hlt
      by_cases h35 : at_ a (run a white i) = 35
      · have n35 : ¬ (run a white i = a.length ∨ at_ a (run a white i) ≠ 35) := by
          rintro (h | h)
          · omega
          · exact h h35
        have n35' : ¬ (run a white i = (a ++ 10 :: b).length ∨ at_ a (run a white i) ≠ 35) := by
          rintro (h | h)
          · omega
          · exact h h35
        rw [if_neg n35] at bs
        have y := run_yes a notNl (run a white i) hlt (by rw [h35]; rfl)
        have z := run_bd a notNl (run a white i) r.2
        have ne : run (a ++ 10 :: b) notNl (run a white i) = run a notNl (run a white i) := by
          refine run_is _ _ _ _ z.1 (by omega) ?_ ?_
          · intro j x x'
            rw [at_left _ _ _ (by omega)]
            exact run_all a notNl _ j x x'
          · intro _
            by_cases e : run a notNl (run a white i) < a.length
            · rw [at_left _ _ _ e]
              exact run_stop a notNl _ r.2 e
            · rw [show run a notNl (run a white i) = a.length from by omega, h10]
              rfl
        have := ih (run a notNl (run a white i)) z.2 (by omega)
        rw [bs, ← this]
        unfold blank
        rw [blk_step, re, e35, if_neg n35', ne]
        exact blk_more _ _ _ (by omega) (by omega)
      · have p35 : run a white i = a.length ∨ at_ a (run a white i) ≠ 35 := Or.inr h35
        have p35' : run a white i = (a ++ 10 :: b).length ∨ at_ a (run a white i) ≠ 35 := Or.inr h35
        rw [if_pos p35] at bs
        rw [bs, if_pos hlt]
        unfold blank
        rw [blk_step, re, e35, if_pos p35']
    · rw [if_neg hlt] at re
      have p35 : run a white i = a.length ∨ at_ a (run a white i) ≠ 35 := Or.inl (by omega)
      rw [if_pos p35] at bs
      rw [bs, if_neg hlt]
      unfold blank
      rw [blk_step, blk_step, re]

theorem tokAt_parts (a b : List UInt8) (i : Nat) (hi : i < a.length) (hw : white (at_ a i) = false) (h35 : at_ a i ≠ 35) : tokAt (a ++ 10 :: b) i = tokAt a i := by
  have hm := tokAt_more a i hi hw h35
  have hb := tokAt_bd a i (by omega)
  have h10 : at_ (a ++ 10 :: b) a.length = 10 := at_right a (10 :: b) 0
  have e := tokAt_move a (a ++ 10 :: b) i i ((tokAt a i).2 - i) (tokAt a i).1 (by rw [show i + ((tokAt a i).2 - i) = (tokAt a i).2 from by omega]) (by omega) (by omega) (by simp; omega)
    (fun j hj => at_left _ _ _ (by omega))
    (fun hh => by
      by_cases hq : i + ((tokAt a i).2 - i) < a.length
      · refine .inr ⟨hq, at_left _ _ _ hq, fun hx => ?_⟩
        rw [wrong_move a (a ++ 10 :: b) _ _ (at_left _ _ _ hq)]
        · exact hx
        · generalize i + ((tokAt a i).2 - i) = q at *
          by_cases q1 : q + 1 < a.length
          · rw [at_left _ _ _ q1]
          · have e1 : q + 1 = a.length := by omega
            rw [e1, h10, at_out a _ (Nat.le_refl _)]
            decide
      · left
        rw [show i + ((tokAt a i).2 - i) = a.length from by omega, h10]
        rfl)
  rw [e]
  refine Prod.ext rfl ?_
  simp only
  omega

/-- tokens with the same kinds and bytes, n places on -/
def Fol (n : Nat) (z y : List Tok) : Prop := z.length = y.length ∧ ∀ (j : Nat) (h1 : j < z.length) (h2 : j < y.length), z[j].kind = y[j].kind ∧ z[j].at_ = y[j].at_ + n ∧ z[j].hi = y[j].hi + n
theorem fol_map (n : Nat) (y : List Tok) : Fol n (y.map (shiftT n)) y := by
  refine ⟨by simp, fun j h1 h2 => ?_⟩
  rw [List.getElem_map]
  exact ⟨rfl, rfl, rfl⟩
theorem fol_head (n : Nat) (t t' : Tok) (z y : List Tok) (h : Fol n (t :: z) y) (h1 : t'.kind = t.kind) (h2 : t'.at_ = t.at_) (h3 : t'.hi = t.hi) : Fol n (t' :: z) y := by
  refine ⟨by simpa using h.1, fun j a b => ?_⟩
  cases j with
  | zero =>
    have := h.2 0 (by simp) b
    simp only [List.getElem_cons_zero] at this ⊢
    rw [h1, h2, h3]
    exact this
  | succ j =>
    have := h.2 (j + 1) (by simpa using a) b
    simpa using this

theorem scanTo_parts (a b : List UInt8) : ∀ f g i, i ≤ a.length → a.length - i < f → (a ++ 10 :: b).length - i < g → ∃ z, scanTo (a ++ 10 :: b) g i = (scanTo a f i).dropLast ++ z ∧ Fol (a.length + 1) z (scan b) := by
  have hc : (a ++ 10 :: b).length = a.length + 1 + b.length := by simp; omega
  have hsplit : a ++ 10 :: b = (a ++ [10]) ++ b := by simp
  have hl1 : (a ++ [10]).length = a.length + 1 := by simp
  intro f
  induction f with
  | zero => intro g i h1 h2; omega
  | succ f ih =>
    intro g i h1 h2 h3
    obtain ⟨g, rfl⟩ : ∃ g', g = g' + 1 := ⟨g - 1, by omega⟩
    have bd := blank_bd a i h1
    have bp : blank (a ++ 10 :: b) i = if blank a i < a.length then blank a i else blank (a ++ 10 :: b) (a.length + 1) := blk_parts a b (a.length + 1) i h1 (by omega)
    have nb := nextTok_bd a i h1
    have nm := nextTok_more a i h1
    have ne := nextTok_end a i h1
    rw [scanTo_step a]
    by_cases he : blank a i = a.length
    · -- the end of a: the tokens of b follow
      rw [if_pos (ne.2 he)]
      refine ⟨scanTo (a ++ 10 :: b) (g + 1) i, by simp, ?_⟩
      have e : blank (a ++ 10 :: b) i = blank (a ++ 10 :: b) (a.length + 1) := by
        rw [bp, if_neg (by omega)]
      have hsh : scanTo (a ++ 10 :: b) (g + 1) (a.length + 1) = (scanTo b (g + 1) 0).map (shiftT (a.length + 1)) := by
        have := scanTo_shift (a ++ [10]) b (g + 1) 0 (Nat.zero_le _)
        rw [← hsplit, hl1] at this
        simpa using this
      have hf : scanTo b (g + 1) 0 = scan b := scanTo_fuel b _ _ 0 (Nat.zero_le _) (by omega) (by omega)
      rw [hf] at hsh
      have F : Fol (a.length + 1) (scanTo (a ++ 10 :: b) (g + 1) (a.length + 1)) (scan b) := by
        rw [hsh]
        exact fol_map _ _
      have n1 : nextTok (a ++ 10 :: b) i = { nextTok (a ++ 10 :: b) (a.length + 1) with lo := i } := by
        unfold nextTok
        rw [e]
      rw [scanTo_step] at F
      rw [scanTo_step, n1]
      exact fol_head _ _ _ _ _ F rfl rfl rfl
    · have hlt : blank a i < a.length := by omega
      have hk : (nextTok a i).kind ≠ 5 := fun h => he (ne.1 h)
      have st := blank_stop a i h1 hlt
      have e : blank (a ++ 10 :: b) i = blank a i := by
        rw [bp, if_pos hlt]
      have n1 : nextTok (a ++ 10 :: b) i = nextTok a i := by
        unfold nextTok
        rw [e, tokAt_parts a b _ hlt st.1 st.2]
      have m := nm hk
      rw [if_neg hk, scanTo_step, n1, if_neg hk]
      obtain ⟨z, hz, hF⟩ := ih g (nextTok a i).hi.toNat (by omega) (by omega) (by omega)
      refine ⟨z, ?_, hF⟩
      rw [hz]
      obtain ⟨f', rfl⟩ : ∃ f', f = f' + 1 := ⟨f - 1, by omega⟩
      rw [scanTo_step a f']
      rfl
theorem scan_parts (a b : List UInt8) : ∃ z, scan (a ++ 10 :: b) = (scan a).dropLast ++ z ∧ Fol (a.length + 1) z (scan b) :=
  scanTo_parts a b _ _ 0 (Nat.zero_le _) (by omega) (by omega)
end Go.Proofs.Ytgihfnnffailiab
