/- What is proved: the reference's Loops. -/
import Derived.Test.YtbdpdbeekbbehaaDoNs
import Derived.Test.YtbdpdbeekbbehaaDoLoops
set_option linter.unusedVariables false
namespace Go.Proofs.Ytbdpdbeekbbehaa
open Go.RowKit Go.Shelf

/-- truth values in a block: true at the points with P -/
def BSet (w : World) (b n : Nat) (P : Nat → Prop) : Prop := ∃ f, BArr w b n f ∧ ∀ c, c < n → (f c = true ↔ P c)
section
variable {w w' : World} {b n : Nat} {P P' : Nat → Prop}
theorem BSet.later (h : BSet w b n P) (hb : Below w.heap.size w w') : BSet w' b n P := by
  obtain ⟨f, h1, h2⟩ := h
  exact ⟨f, h1.later hb, h2⟩
theorem BSet.eq (h : BSet w b n P) (hb : w'.heap[b]? = w.heap[b]?) : BSet w' b n P := by
  obtain ⟨f, h1, h2⟩ := h
  exact ⟨f, h1.eq hb, h2⟩
theorem BSet.ext (h : BSet w b n P) (he : ∀ c, c < n → (P c ↔ P' c)) : BSet w b n P' := by
  obtain ⟨f, h1, h2⟩ := h
  exact ⟨f, h1, fun c hc => (h2 c hc).trans (he c hc)⟩
theorem BSet.lt (h : BSet w b n P) : b < w.heap.size := by obtain ⟨f, h1, _⟩ := h; exact h1.lt
theorem BSet.frz (h : BSet w b n P) (i : Nat) : w.frozen? ⟨b, i, none⟩ = false := by obtain ⟨f, h1, _⟩ := h; exact h1.frz i
theorem BSet.set (h : BSet w b n P) {y : Nat} (hy : y < n) : BSet (w.setCell ⟨b, y, none⟩ (.bool true)) b n (fun c => c = y ∨ P c) := by
  obtain ⟨f, h1, h2⟩ := h
  refine ⟨_, h1.set hy, fun c hc => ?_⟩
  unfold setB
  by_cases e : c = y
  · subst e; simp
  · simp [e, h2 c hc]
theorem BSet.other (h : BSet w b n P) {p : Addr} (hne : b ≠ p.block) (v : Value) : BSet (w.setCell p v) b n P := h.eq (hfar hne v)
theorem BSet.cell (h : BSet w b n P) {y : Nat} (hy : y < n) : ∃ x : Bool, w.cell? ⟨b, y, none⟩ = some (.bool x) ∧ (x = true ↔ P y) := by
  obtain ⟨f, h1, h2⟩ := h
  exact ⟨f y, h1.cell hy, h2 y hy⟩
end
/-- c reaches the back edge's point b without the head -/
def RLP (E : Nat → List Nat) (h b c : Nat) : Prop := Rea E 0 c ∧ Rch E (fun x => x ≠ h) c b
/-- a back edge leads from b to h -/
def RLe (E : Nat → List Nat) (dm : Nat → Nat → Bool) (h b : Nat) : Prop := h ∈ E b ∧ dm h b = true
def RLin (E : Nat → List Nat) (dm : Nat → Nat → Bool) (h k c : Nat) : Prop := ∃ b, b < k ∧ RLe E dm h b ∧ RLP E h b c
def RLfd (E : Nat → List Nat) (dm : Nat → Nat → Bool) (h k : Nat) : Prop := ∃ b, b < k ∧ RLe E dm h b
/-- in the middle of a point's edges -/
def RLinJ (E : Nat → List Nat) (dm : Nat → Nat → Bool) (h b j c : Nat) : Prop := RLin E dm h b c ∨ ((h ∈ (E b).take j ∧ dm h b = true) ∧ RLP E h b c)
def RLfdJ (E : Nat → List Nat) (dm : Nat → Nat → Bool) (h b j : Nat) : Prop := RLfd E dm h b ∨ (h ∈ (E b).take j ∧ dm h b = true)
section
variable {E : Nat → List Nat} {dm : Nat → Nat → Bool} {h b j c : Nat}
theorem rlin_zero : ¬ RLin E dm h 0 c := by rintro ⟨b, hb, _⟩; omega
theorem rlfd_zero : ¬ RLfd E dm h 0 := by rintro ⟨b, hb, _⟩; omega
theorem rlinj_zero : RLinJ E dm h b 0 c ↔ RLin E dm h b c := by unfold RLinJ; simp
theorem rlfdj_zero : RLfdJ E dm h b 0 ↔ RLfd E dm h b := by unfold RLfdJ; simp
theorem rlinj_all : RLinJ E dm h b (E b).length c ↔ RLin E dm h (b + 1) c := by
  unfold RLinJ
  rw [List.take_length]
  constructor
  · rintro (⟨u, h1, h2, h3⟩ | ⟨h2, h3⟩)
    · exact ⟨u, by omega, h2, h3⟩
    · exact ⟨b, by omega, h2, h3⟩
  · rintro ⟨u, h1, h2, h3⟩
    by_cases e : u = b
    · subst e; exact .inr ⟨h2, h3⟩
    · exact .inl ⟨u, by omega, h2, h3⟩
theorem rlfdj_all : RLfdJ E dm h b (E b).length ↔ RLfd E dm h (b + 1) := by
  unfold RLfdJ
  rw [List.take_length]
  constructor
  · rintro (⟨u, h1, h2⟩ | h2)
    · exact ⟨u, by omega, h2⟩
    · exact ⟨b, by omega, h2⟩
  · rintro ⟨u, h1, h2⟩
    by_cases e : u = b
    · subst e; exact .inr h2
    · exact .inl ⟨u, by omega, h2⟩
theorem rl_skip (hj : j < (E b).length) (hx : (E b)[j] ≠ h ∨ dm h b = false) : (RLinJ E dm h b (j + 1) c ↔ RLinJ E dm h b j c) ∧ (RLfdJ E dm h b (j + 1) ↔ RLfdJ E dm h b j) := by
  have key : (h ∈ (E b).take (j + 1) ∧ dm h b = true) ↔ (h ∈ (E b).take j ∧ dm h b = true) := by
    rw [List.take_succ_eq_append_getElem hj, List.mem_append, List.mem_singleton]
    constructor
    · rintro ⟨h1 | h1, h2⟩
      · exact ⟨h1, h2⟩
      · rcases hx with e | e
        · exact absurd h1.symm e
        · rw [e] at h2; cases h2
    · rintro ⟨h1, h2⟩
      exact ⟨.inl h1, h2⟩
  unfold RLinJ RLfdJ
  rw [key]
  exact ⟨Iff.rfl, Iff.rfl⟩
theorem rl_take (hj : j < (E b).length) (hx : (E b)[j] = h) (hd : dm h b = true) : (RLinJ E dm h b (j + 1) c ↔ (RLinJ E dm h b j c ∨ RLP E h b c)) ∧ RLfdJ E dm h b (j + 1) := by
  have hm : h ∈ (E b).take (j + 1) := by
    rw [List.take_succ_eq_append_getElem hj, List.mem_append, List.mem_singleton]
    exact .inr hx.symm
  unfold RLinJ RLfdJ
  refine ⟨?_, .inr ⟨hm, hd⟩⟩
  constructor
  · rintro (h1 | ⟨_, h1⟩)
    · exact .inl (.inl h1)
    · exact .inr h1
  · rintro ((h1 | ⟨_, h1⟩) | h1)
    · exact .inl h1
    · exact .inr ⟨⟨hm, hd⟩, h1⟩
    · exact .inr ⟨⟨hm, hd⟩, h1⟩
end
theorem rl_lp {l : List PtV} {dm lp : Nat → Nat → Bool} (hdm : ∀ h u, dm h u = true ↔ Dom (edg l) 0 h u) (hlp : ∀ h c, lp h c = true ↔ LpP (edg l) h c) (h c : Nat) : (RLin (edg l) dm h l.length c ∨ c = h) ↔ lp h c = true := by
  rw [hlp]
  constructor
  · rintro (⟨b, _, ⟨h1, h2⟩, h3, h4⟩ | e)
    · exact .inr ⟨h3, b, h1, (hdm h b).1 h2, h4⟩
    · exact .inl e
  · rintro (e | ⟨h3, b, h1, h2, h4⟩)
    · exact .inr e
    · refine .inl ⟨b, ?_, ⟨h1, (hdm h b).2 h2⟩, h3, h4⟩
      by_cases hb : b < l.length
      · exact hb
      · rw [edg_out (by omega)] at h1; simp at h1
theorem rl_heads {l : List PtV} {dm : Nat → Nat → Bool} (h : Nat) : (RLfd (edg l) dm h l.length → lpHeads dm l (h + 1) = lpHeads dm l h ++ [h]) ∧ (¬ RLfd (edg l) dm h l.length → lpHeads dm l (h + 1) = lpHeads dm l h) := by
  have e : lpHeads dm l (h + 1) = lpHeads dm l h ++ (if (tlL (edg l) dm l.length h).isEmpty then [] else [h]) := by
    unfold lpHeads
    rw [List.range_succ, List.filter_append]
    cases hq : (tlL (edg l) dm l.length h).isEmpty <;> simp [hq]
  rw [e]
  constructor
  · rintro ⟨b, h1, h2, h3⟩
    have : (tlL (edg l) dm l.length h).isEmpty = false := by
      rw [List.isEmpty_eq_false_iff]
      intro hn
      have hm := tlL_mem (E := edg l) (dm := dm).2 ⟨h1, h2, h3⟩
      rw [hn] at hm
      simp at hm
    rw [this]
    simp
  · intro hn
    have : (tlL (edg l) dm l.length h).isEmpty = true := by
      rw [List.isEmpty_iff]
      cases hq : tlL (edg l) dm l.length h with
      | nil => rfl
      | cons u t =>
        have hm : u ∈ tlL (edg l) dm l.length h := by rw [hq]; simp
        obtain ⟨h1, h2, h3⟩ := tlL_mem.1 hm
        exact absurd ⟨u, h1, h2, h3⟩ hn
    rw [this]
    simp
theorem ne_int (h : Nat) : (fun x : Nat => (x : Int) ≠ (h : Int)) = fun x => x ≠ h := by
  funext x
  exact propext ⟨fun g e => g (by omega), fun g e => g (by omega)⟩
theorem ne_minus : (fun x : Nat => (x : Int) ≠ -1) = fun _ => True := by
  funext x
  exact propext ⟨fun _ => trivial, fun _ => by omega⟩
end Go.Proofs.Ytbdpdbeekbbehaa
