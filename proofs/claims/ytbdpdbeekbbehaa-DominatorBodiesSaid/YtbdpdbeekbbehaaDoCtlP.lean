/- What is proved: control dependence as the way up from a point that an edge leads to: mathematics, and what lies in memory meanwhile. -/
import Derived.Test.YtbdpdbeekbbehaaDoDom2
set_option linter.unusedVariables false
namespace Go.Proofs.Ytbdpdbeekbbehaa
open Go.RowKit Go.Shelf

/-- v is control dependent on a -/
def CDp (E F : Nat → List Nat) (r a v : Nat) : Prop := ∃ s ∈ E a, Dom F r v s ∧ ¬ (v ≠ a ∧ Dom F r v a)
section
variable {E F : Nat → List Nat} {r n : Nat} {ov : Nat → Int}
theorem DTree.rank (h : DTree F r ov) {v c : Nat} (e : ov v = (c : Int)) : v ≠ c := fun he => by
  obtain ⟨pl, N, hk⟩ := h.rk
  have := (hk v c e).1
  rw [he] at this
  omega
/-- an edge to a point from which the exit can be reached -/
theorem DTree.edge (h : DTree F r ov) (hEF : ∀ q x, q ∈ F x ↔ x ∈ E q) (hr : E r = []) {a s : Nat} (hs : s ∈ E a) (hp : Pr ov r s) : ∃ c : Nat, ov a = (c : Int) ∧ Up ov s c := by
  have hs1 := h.pr.1 hp
  have ha : Rea F r a := .step hs1 ((hEF a s).2 hs) trivial
  have har : a ≠ r := fun e => by rw [e, hr] at hs; simp at hs
  obtain ⟨c, hc, _⟩ := h.pos a ha har
  have hd : Dom F r c a := (h.dom a c ha).1 (.one hc)
  refine ⟨c, hc, (h.dom s c hs1).2 ⟨hs1, fun hx => hd.2 (.step hx ((hEF a s).2 hs) (h.rank hc))⟩⟩
theorem DTree.cd (h : DTree F r ov) (hEF : ∀ q x, q ∈ F x ↔ x ∈ E q) (hr : E r = []) {a c : Nat} (hc : ov a = (c : Int)) (v : Nat) : CDp E F r a v ↔ ∃ s ∈ E a, Pr ov r s ∧ Up ov s v ∧ ¬ Up ov c v := by
  have hra : Rea F r a := Classical.byContradiction fun hn => by have := h.non a hn; omega
  have hstr : (v ≠ a ∧ Dom F r v a) ↔ Up ov c v := by
    constructor
    · rintro ⟨h1, h2⟩
      rcases ((h.dom a v hra).2 h2).cases' with h3 | ⟨d, h3, h4⟩
      · exact absurd h3.symm h1
      · rw [hc] at h3
        have := Int.ofNat.inj h3
        subst this
        exact h4
    · intro h1
      refine ⟨fun e => ?_, (h.dom a v hra).1 (.step hc h1)⟩
      subst e
      exact h.rank hc (h.anti v c (.one hc) h1)
  constructor
  · rintro ⟨s, hs, h1, h2⟩
    exact ⟨s, hs, h.pr.2 h1.1, (h.dom s v h1.1).2 h1, fun h3 => h2 (hstr.2 h3)⟩
  · rintro ⟨s, hs, hp, h1, h2⟩
    have hs1 := h.pr.1 hp
    exact ⟨s, hs, (h.dom s v hs1).1 h1, fun h3 => h2 (hstr.1 h3)⟩
theorem DTree.nocd (h : DTree F r ov) (hEF : ∀ q x, q ∈ F x ↔ x ∈ E q) (hr : E r = []) {a : Nat} (hno : ∀ s ∈ E a, ¬ Pr ov r s) (v : Nat) : ¬ CDp E F r a v := by
  rintro ⟨s, hs, h1, _⟩
  exact hno s hs (h.pr.2 h1.1)
end

/-- the points that are marked when j edges of a point have been -/
def MkJ (ov : Nat → Int) (r c : Nat) (es : List Nat) (v : Nat) : Prop := ∃ s ∈ es, Pr ov r s ∧ Up ov s v ∧ ¬ Up ov c v
section
variable {F : Nat → List Nat} {r c x : Nat} {ov : Nat → Int} {es : List Nat} {s : Nat} {mk : Nat → Bool}
theorem MkJ.skip (hp : ¬ Pr ov r s) (v : Nat) : MkJ ov r c (es ++ [s]) v ↔ MkJ ov r c es v := by
  constructor
  · rintro ⟨t, h1, h2, h3⟩
    rcases List.mem_append.1 h1 with h | h
    · exact ⟨t, h, h2, h3⟩
    · rw [List.mem_singleton.1 h] at h2; exact absurd h2 hp
  · rintro ⟨t, h1, h2⟩
    exact ⟨t, List.mem_append.2 (.inl h1), h2⟩
theorem MkJ.more (hp : Pr ov r s) (v : Nat) : MkJ ov r c (es ++ [s]) v ↔ (MkJ ov r c es v ∨ (Up ov s v ∧ ¬ Up ov c v)) := by
  constructor
  · rintro ⟨t, h1, h2, h3⟩
    rcases List.mem_append.1 h1 with h | h
    · exact .inl ⟨t, h, h2, h3⟩
    · rw [List.mem_singleton.1 h] at h3; exact .inr h3
  · rintro (⟨t, h1, h2⟩ | h)
    · exact ⟨t, List.mem_append.2 (.inl h1), h2⟩
    · exact ⟨s, by simp, hp, h⟩
/-- the way up from s, at x: what lies behind is marked -/
def Wy (ov : Nat → Int) (r c : Nat) (es : List Nat) (s x : Nat) (mk : Nat → Bool) : Prop :=
  Up ov s x ∧ Up ov x c ∧ ∀ v, mk v = true ↔ (MkJ ov r c es v ∨ (Up ov s v ∧ ¬ Up ov c v ∧ ¬ Up ov x v))
theorem Wy.start (hm : ∀ v, mk v = true ↔ MkJ ov r c es v) (hc : Up ov s c) : Wy ov r c es s s mk :=
  ⟨.refl _, hc, fun v => (hm v).trans ⟨.inl, fun h => h.elim id fun ⟨h1, _, h2⟩ => absurd h1 h2⟩⟩
theorem Wy.top (h : Wy ov r c es s c mk) (hp : Pr ov r s) (v : Nat) : mk v = true ↔ MkJ ov r c (es ++ [s]) v := by
  rw [MkJ.more hp, h.2.2 v]
  constructor
  · rintro (h1 | ⟨h1, h2, _⟩)
    · exact .inl h1
    · exact .inr ⟨h1, h2⟩
  · rintro (h1 | ⟨h1, h2⟩)
    · exact .inl h1
    · exact .inr ⟨h1, h2, h2⟩
theorem Wy.stop (h : Wy ov r c es s x mk) (hp : Pr ov r s) (hx : mk x = true) (v : Nat) : mk v = true ↔ MkJ ov r c (es ++ [s]) v := by
  rw [MkJ.more hp, h.2.2 v]
  constructor
  · rintro (h1 | ⟨h1, h2, _⟩)
    · exact .inl h1
    · exact .inr ⟨h1, h2⟩
  · rintro (h1 | ⟨h1, h2⟩)
    · exact .inl h1
    · by_cases h3 : Up ov x v
      · rcases (h.2.2 x).1 hx with ⟨t, g1, g2, g3, g4⟩ | ⟨_, _, g⟩
        · exact .inl ⟨t, g1, g2, g3.trans h3, h2⟩
        · exact absurd (.refl x) g
      · exact .inr ⟨h1, h2, h3⟩
theorem Wy.step (hd : DTree F r ov) (h : Wy ov r c es s x mk) (hx : x ≠ c) : ∃ y : Nat, ov x = (y : Int) ∧ Wy ov r c es s y (fun v => if v = x then true else mk v) := by
  obtain ⟨h1, h2, h3⟩ := h
  rcases h2.cases' with e | ⟨y, e, h4⟩
  · exact absurd e hx
  · refine ⟨y, e, h1.trans (.one e), h4, fun v => ?_⟩
    have hyx : ¬ Up ov y x := fun g => hd.rank e (hd.anti x y (.one e) g)
    show (if v = x then true else mk v) = true ↔ _
    by_cases hv : v = x
    · subst hv
      rw [if_pos rfl]
      exact ⟨fun _ => .inr ⟨h1, fun g => hx (hd.anti v c h2 g), hyx⟩, fun _ => rfl⟩
    · rw [if_neg hv, h3 v]
      have hxy : Up ov x v ↔ Up ov y v := ⟨fun g => by
        rcases g.cases' with g1 | ⟨z, g1, g2⟩
        · exact absurd g1.symm hv
        · rw [e] at g1
          have := Int.ofNat.inj g1
          subst this
          exact g2, fun g => .step e g⟩
      rw [hxy]
end

/-- the rows of Control: those of the points below a, and a where it is marked -/
def ctL (cd : Nat → Nat → Bool) (a : Nat) (mk : Nat → Bool) (v : Nat) : List Nat := (List.range a).filter (fun u => cd u v) ++ if mk v then [a] else []
theorem ctL_set {cd : Nat → Nat → Bool} {a x : Nat} {mk : Nat → Bool} (hx : mk x = false) : ctL cd a (fun v => if v = x then true else mk v) = upd (ctL cd a mk) x (ctL cd a mk x ++ [a]) := by
  funext v
  unfold ctL
  by_cases e : v = x
  · subst e
    rw [upd_same]
    simp [hx]
  · rw [upd_ne e]
    simp [e]
theorem ctL_next {cd : Nat → Nat → Bool} {a : Nat} {mk : Nat → Bool} (h : ∀ v, mk v = cd a v) : ctL cd a mk = ctL cd (a + 1) (fun _ => false) := by
  funext v
  unfold ctL
  rw [List.range_succ, List.filter_append, h v]
  cases hc : cd a v <;> simp [hc]
theorem ctL_congr {cd : Nat → Nat → Bool} {a : Nat} {mk mk' : Nat → Bool} (h : ∀ v, mk v = mk' v) : ctL cd a mk = ctL cd a mk' := by
  funext v; unfold ctL; rw [h v]
theorem ctL_len (cd : Nat → Nat → Bool) (a : Nat) (mk : Nat → Bool) (v : Nat) : (ctL cd a mk v).length ≤ a + 1 := by
  unfold ctL
  rw [List.length_append]
  have h1 := List.length_filter_le (fun u => cd u v) (List.range a)
  rw [List.length_range] at h1
  split <;> simp <;> omega
/-- the last one of a row -/
theorem ctL_last (cd : Nat → Nat → Bool) (a : Nat) (mk : Nat → Bool) (v : Nat) : (mk v = true → ∃ h : (ctL cd a mk v).length - 1 < (ctL cd a mk v).length, (ctL cd a mk v)[(ctL cd a mk v).length - 1] = a) ∧ (mk v = false → ∀ h : (ctL cd a mk v).length - 1 < (ctL cd a mk v).length, (ctL cd a mk v)[(ctL cd a mk v).length - 1] ≠ a) := by
  constructor
  · intro h
    have e : ctL cd a mk v = (List.range a).filter (fun u => cd u v) ++ [a] := by unfold ctL; rw [h]; rfl
    rw [e]
    refine ⟨by simp, by simp⟩
  · intro h
    have e : ctL cd a mk v = (List.range a).filter (fun u => cd u v) := by unfold ctL; rw [h]; simp
    rw [e]
    intro hl he
    have hm := List.getElem_mem hl
    rw [he] at hm
    have := List.mem_range.1 (List.mem_filter.1 hm).1
    omega

/-- Control under way -/
structure CtS (w : World) (A : Option Addr) (c : Nat) (l : List PtV) (ob hb : Nat) (ov : Nat → Int) (L : Nat → List Nat) (W : World) : Prop where
  fb : FBx W w.heap.size A c l
  oa : IArr W ob l.length ov
  rows : ∃ R, HdR W hb l.length (hb + 1) R L
  below : Below w.heap.size w W
  l1 : w.heap.size < hb
  l2 : ob < hb
theorem CtS.step {w : World} {A : Option Addr} {c : Nat} {l : List PtV} {ob hb : Nat} {ov : Nat → Int} {L L' : Nat → List Nat} {W w4 w6 : World} {R R' : Nat → Value} {o : Obj} {x : Nat} (h : CtS w A c l ob hb ov L W) (hd : HdR W hb l.length (hb + 1) R L) (hx : x < l.length) (hg : (W.alloc o).grownBy w4 (R x).ownBlock) {v : Value} (e6 : w6 = w4.setCell ⟨hb, x, none⟩ v) (s1 : HdR w6 hb l.length (hb + 1) R' L') (s2 : ∀ b, b < hb + 1 → b ≠ hb → w6.heap[b]? = W.heap[b]?) : CtS w A c l ob hb ov L' w6 := by
  have hs := hd.hi
  have l1 := h.l1
  have l2 := h.l2
  refine ⟨(s2 _ (by omega) (by omega)).trans h.fb, h.oa.eq (s2 _ (by omega) (by omega)), ⟨R', s1⟩, ?_, l1, l2⟩
  rw [e6]
  refine ((h.below.alloc (by omega) o).grown hg (by simp; omega) (fun b e => ?_)).setCell (by simp; omega) _
  have := (own_block' (hd.rows.own x hx) e).1
  omega
end Go.Proofs.Ytbdpdbeekbbehaa
