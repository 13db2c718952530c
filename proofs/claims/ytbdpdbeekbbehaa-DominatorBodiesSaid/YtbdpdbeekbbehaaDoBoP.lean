/- What is proved: what the law DominatorBodies asks of loops and of control dependence, as mathematics. -/
import Derived.Test.YtbdpdbeekbbehaaDoLpE
import Derived.Test.YtbdpdbeekbbehaaDoCtlP
set_option linter.unusedVariables false
namespace Go.Proofs.Ytbdpdbeekbbehaa
open Go.RowKit Go.Shelf

section
variable {E F : Nat → List Nat} {X : Nat → Prop} {h a b c r v : Nat}
theorem Rch.uncons (hr : Rch E X a b) : a = b ∨ ∃ y, y ∈ E a ∧ Rch E X y b := by
  induction hr with
  | here _ => exact .inl rfl
  | @step b c hp h1 h2 ih =>
    rcases ih with e | ⟨y, hy, ih⟩
    · subst e; exact .inr ⟨c, h1, .here h2⟩
    · exact .inr ⟨y, hy, .step ih h1 h2⟩
theorem first_head (hr : Rea F r b) : Rch F (fun x => x ≠ h) r b ∨ r = h ∨ ∃ x, Rch F (fun x => x ≠ h) r x ∧ h ∈ F x := by
  induction hr with
  | here _ =>
    by_cases e : r = h
    · exact .inr (.inl e)
    · exact .inl (.here e)
  | @step b c hp h1 _ ih =>
    rcases ih with ih | ih
    · by_cases e : c = h
      · exact .inr (.inr ⟨b, ih, e ▸ h1⟩)
      · exact .inl (.step ih h1 e)
    · exact .inr ih
/-- a point to which a back edge leads can be reached -/
theorem head_rea {t : Nat} (hd : Dom E 0 h t) : Rea E 0 h := by
  rcases past_head (h := h) hd.1 with g | ⟨g, _⟩
  · exact absurd g hd.2
  · exact g
/-- the head dominates the body -/
theorem body_dom {t : Nat} (ht : h ∈ E t) (hd : Dom E 0 h t) (hb : LpP E h b) : Dom E 0 h b := by
  rcases hb with e | ⟨hr, u, h1, h2, h3⟩
  · subst e
    exact ⟨head_rea hd, fun g => g.last rfl⟩
  · exact ⟨hr, fun g => h2.2 (g.trans h3)⟩
/-- a back edge leads from a point of the body -/
theorem body_back {t : Nat} (ht : h ∈ E t) (hd : Dom E 0 h t) : LpP E h t := by
  by_cases e : t = h
  · exact .inl e
  · exact .inr ⟨hd.1, t, ht, hd, .here e⟩
/-- some way on stays in the body -/
theorem body_on {t : Nat} (ht : h ∈ E t) (hd : Dom E 0 h t) (hb : LpP E h b) : ∃ y, y ∈ E b ∧ LpP E h y := by
  by_cases e : b = h
  · subst e
    rcases past_head (h := b) hd.1 with g | ⟨g1, g2⟩
    · exact absurd g hd.2
    · rcases g2 with e | ⟨y, hy, g⟩
      · subst e; exact ⟨t, ht, .inl rfl⟩
      · exact ⟨y, hy, .inr ⟨.step g1 hy trivial, t, ht, hd, g⟩⟩
  · rcases hb with e2 | ⟨hr, u, h1, h2, h3⟩
    · exact absurd e2 e
    · rcases h3.uncons with e3 | ⟨y, hy, g⟩
      · subst e3; exact ⟨h, h1, .inl rfl⟩
      · exact ⟨y, hy, .inr ⟨.step hr hy trivial, u, h1, h2, g⟩⟩
/-- a point on which another one is control dependent leads to two different points -/
theorem cd_two (hEF : ∀ q x, q ∈ F x ↔ x ∈ E q) (hr : E r = []) (hc : CDp E F r a v) (s : Nat) (hs : s ∈ E a) : ∃ n, n ∈ E a ∧ n ≠ s := by
  apply Classical.byContradiction
  intro hno
  have hall : ∀ n, n ∈ E a → n = s := fun n hn => Classical.byContradiction fun e => hno ⟨n, hn, e⟩
  obtain ⟨s', hs', h1, h2⟩ := hc
  have e := hall s' hs'
  subst e
  have har : r ≠ a := fun e => by subst e; rw [hr] at hs; simp at hs
  have into : ∀ x, a ∈ F x → x = s' := fun x hx => hall x ((hEF a x).1 hx)
  by_cases hv : v = a
  · subst hv
    rcases first_head (h := v) h1.1 with g | g | ⟨x, g1, g2⟩
    · exact h1.2 g
    · exact har g
    · exact h1.2 (into x g2 ▸ g1)
  · refine h2 ⟨hv, .step h1.1 ((hEF a s').2 hs) trivial, fun g => ?_⟩
    cases g with
    | here _ => exact har rfl
    | @step x _ g1 g2 _ => exact h1.2 (into x g2 ▸ g1)
end
/-- what is known of the loops that are given -/
theorem loops_facts {l : List PtV} (hl : FlOk l) {dm lp : Nat → Nat → Bool} (hdm : ∀ h u, dm h u = true ↔ Dom (edg l) 0 h u) (hlp : ∀ h c, lp h c = true ↔ LpP (edg l) h c) {h : Nat} (hh : h ∈ lpHeads dm l l.length) :
    h < l.length ∧ lp h h = true ∧ (∀ b, lp h b = true → dm h b = true) ∧ (∃ t, t < l.length ∧ lp h t = true ∧ h ∈ edg l t) ∧ ∀ b, lp h b = true → ∃ y, y ∈ edg l b ∧ lp h y = true := by
  unfold lpHeads at hh
  obtain ⟨h1, h2⟩ := List.mem_filter.1 hh
  have h3 := List.mem_range.1 h1
  cases hq : tlL (edg l) dm l.length h with
  | nil => rw [hq] at h2; simp at h2
  | cons t ts =>
    have hm : t ∈ tlL (edg l) dm l.length h := by rw [hq]; simp
    obtain ⟨g1, g2, g3⟩ := tlL_mem.1 hm
    have g4 := (hdm h t).1 g3
    refine ⟨h3, (hlp h h).2 (.inl rfl), fun b hb => (hdm h b).2 (body_dom g2 g4 ((hlp h b).1 hb)), ⟨t, g1, (hlp h t).2 (body_back g2 g4), g2⟩, fun b hb => ?_⟩
    obtain ⟨y, hy, hy2⟩ := body_on g2 g4 ((hlp h b).1 hb)
    exact ⟨y, hy, (hlp h y).2 hy2⟩
theorem filter_lt (p : Nat → Bool) : ∀ n i j (hi : i < ((List.range n).filter p).length) (hj : j < ((List.range n).filter p).length), i < j → ((List.range n).filter p)[i] < ((List.range n).filter p)[j] := by
  intro n i j hi hj hij
  have h : ((List.range n).filter p).Pairwise (· < ·) := List.Pairwise.filter _ List.pairwise_lt_range
  exact List.pairwise_iff_getElem.1 h i j hi hj hij
end Go.Proofs.Ytbdpdbeekbbehaa
