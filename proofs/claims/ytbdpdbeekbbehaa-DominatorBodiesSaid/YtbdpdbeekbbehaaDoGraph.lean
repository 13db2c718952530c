/- What is proved: paths, dominators and the tree of a function that leads upwards, as mathematics; no program is spoken of. -/
set_option linter.unusedVariables false
namespace Go.Proofs.Ytbdpdbeekbbehaa

/-- a path from a to b, all of whose points have the property X -/
inductive Rch (E : Nat → List Nat) (X : Nat → Prop) (a : Nat) : Nat → Prop
  | here : X a → Rch E X a a
  | step {b c : Nat} : Rch E X a b → c ∈ E b → X c → Rch E X a c
section
variable {E : Nat → List Nat} {X Y : Nat → Prop} {a b c : Nat}
theorem Rch.last (h : Rch E X a b) : X b := by cases h <;> assumption
theorem Rch.first (h : Rch E X a b) : X a := by induction h with
  | here h => exact h
  | step _ _ _ ih => exact ih
theorem Rch.mono (h : Rch E X a b) (hXY : ∀ x, X x → Y x) : Rch E Y a b := by induction h with
  | here h => exact .here (hXY _ h)
  | step _ h1 h2 ih => exact .step ih h1 (hXY _ h2)
theorem Rch.trans (h : Rch E X a b) (k : Rch E X b c) : Rch E X a c := by induction k with
  | here _ => exact h
  | step _ h1 h2 ih => exact .step ih h1 h2
theorem Rch.cons (hx : X a) (hb : b ∈ E a) (k : Rch E X b c) : Rch E X a c := (Rch.step (.here hx) hb k.first).trans k
end
abbrev All : Nat → Prop := fun _ => True
/-- there is a path -/
abbrev Rea (E : Nat → List Nat) (a b : Nat) : Prop := Rch E All a b
/-- a dominates b, seen from the root r -/
def Dom (E : Nat → List Nat) (r a b : Nat) : Prop := Rea E r b ∧ ¬ Rch E (fun x => x ≠ a) r b

/-- upwards by the function ov -/
inductive Up (ov : Nat → Int) : Nat → Nat → Prop
  | refl (a : Nat) : Up ov a a
  | step {a b c : Nat} : ov a = (b : Int) → Up ov b c → Up ov a c
section
variable {ov : Nat → Int} {a b c : Nat}
theorem Up.trans (h : Up ov a b) (k : Up ov b c) : Up ov a c := by induction h with
  | refl _ => exact k
  | step h1 _ ih => exact .step h1 (ih k)
theorem Up.one (h : ov a = (b : Int)) : Up ov a b := .step h (.refl b)
theorem Up.line (h : Up ov a b) (k : Up ov a c) : Up ov b c ∨ Up ov c b := by induction h with
  | refl _ => exact .inl k
  | step h1 h2 ih => cases k with
    | refl _ => exact .inr (.step h1 h2)
    | step k1 k2 =>
      rw [h1] at k1
      have := Int.ofNat.inj k1
      subst this
      exact ih k2
theorem Up.cases' (h : Up ov a b) : a = b ∨ ∃ c : Nat, ov a = (c : Int) ∧ Up ov c b := by cases h with
  | refl _ => exact .inl rfl
  | step h1 h2 => exact .inr ⟨_, h1, h2⟩
end

/-- what a search in depth from the root gives: the points behind those that are found first on paths from them -/
structure Post (E : Nat → List Nat) (r : Nat) (found : List Nat) : Prop where
  nd : found.Nodup
  mem : ∀ v, v ∈ found ↔ Rea E r v
  last : found.getLast? = some r
  par : ∀ v ∈ found, v ≠ r → ∃ i j, ∃ (hi : i < found.length) (hj : j < found.length), i < j ∧ found[i] = v ∧ v ∈ E found[j]
/-- the place of each point that is found -/
def Pl (found : List Nat) (pl : Nat → Nat) : Prop := ∀ (i : Nat) (h : i < found.length), pl found[i] = i
section
variable {E : Nat → List Nat} {r : Nat} {found : List Nat} {pl : Nat → Nat}
theorem Pl.at (h : Pl found pl) {v : Nat} (hv : v ∈ found) : ∃ hi : pl v < found.length, found[pl v] = v := by
  obtain ⟨i, hi, e⟩ := List.getElem_of_mem hv
  have := h i hi
  rw [e] at this
  subst this
  exact ⟨hi, e⟩
theorem Pl.inj (h : Pl found pl) {u v : Nat} (hu : u ∈ found) (hv : v ∈ found) (e : pl u = pl v) : u = v := by
  obtain ⟨h1, h2⟩ := h.at hu
  obtain ⟨h3, h4⟩ := h.at hv
  have : found[pl u] = found[pl v] := by congr 1
  rw [h2, h4] at this
  exact this
theorem Post.root (h : Post E r found) (hp : Pl found pl) : r ∈ found ∧ pl r = found.length - 1 ∧ 0 < found.length := by
  have hl := h.last
  have hm := List.mem_of_getLast? hl
  have h0 : 0 < found.length := List.length_pos_of_mem hm
  rw [List.getLast?_eq_getElem?, List.getElem?_eq_getElem (by omega)] at hl
  have e : found[found.length - 1] = r := Option.some.inj hl
  have := hp (found.length - 1) (by omega)
  rw [e] at this
  exact ⟨hm, this, h0⟩
theorem Post.par' (h : Post E r found) (hp : Pl found pl) {v : Nat} (hv : v ∈ found) (hr : v ≠ r) : ∃ q ∈ found, v ∈ E q ∧ pl v < pl q := by
  obtain ⟨i, j, hi, hj, hij, e, he⟩ := h.par v hv hr
  refine ⟨found[j], List.getElem_mem hj, he, ?_⟩
  rw [hp j hj, ← e, hp i hi]
  exact hij
end

/-- the point is the root, or something stands over it -/
def Pr (ov : Nat → Int) (r v : Nat) : Prop := v = r ∨ 0 ≤ ov v
/-- what stands over a point was found later -/
structure Tr (r : Nat) (found : List Nat) (pl : Nat → Nat) (ov : Nat → Int) : Prop where
  rt : ov r = -1
  up : ∀ v, 0 ≤ ov v → v ∈ found ∧ ∃ c : Nat, ov v = (c : Int) ∧ c ∈ found ∧ pl v < pl c ∧ Pr ov r c
  neg : ∀ v, ov v < 0 → ov v = -1
section
variable {r : Nat} {found : List Nat} {pl : Nat → Nat} {ov : Nat → Int}
theorem Tr.next (h : Tr r found pl ov) {v c : Nat} (e : ov v = (c : Int)) : v ∈ found ∧ c ∈ found ∧ pl v < pl c ∧ Pr ov r c := by
  obtain ⟨h1, d, h2, h3⟩ := h.up v (by omega)
  have : d = c := by omega
  subst this
  exact ⟨h1, h3⟩
theorem Tr.le (h : Tr r found pl ov) {a b : Nat} (k : Up ov a b) : pl a ≤ pl b := by induction k with
  | refl _ => exact Nat.le_refl _
  | step e _ ih => have := (h.next e).2.2.1; omega
theorem Tr.lt (h : Tr r found pl ov) {a b : Nat} (k : Up ov a b) (hn : a ≠ b) : pl a < pl b := by
  rcases k.cases' with e | ⟨c, e, k2⟩
  · exact absurd e hn
  · have := (h.next e).2.2.1
    have := h.le k2
    omega
theorem Tr.anti (h : Tr r found pl ov) {a b : Nat} (k : Up ov a b) (k2 : Up ov b a) : a = b := by
  by_cases e : a = b
  · exact e
  · have := h.lt k e
    have := h.le k2
    omega
theorem Tr.prU (h : Tr r found pl ov) {a b : Nat} (k : Up ov a b) (ha : Pr ov r a) : Pr ov r b := by induction k with
  | refl _ => exact ha
  | step e _ ih => exact ih (h.next e).2.2.2
theorem Tr.mem (h : Tr r found pl ov) (hr : r ∈ found) {a : Nat} (ha : Pr ov r a) : a ∈ found := by
  rcases ha with rfl | ha
  · exact hr
  · exact (h.up a ha).1
theorem Tr.prDown (h : Tr r found pl ov) {a b : Nat} (k : Up ov a b) (hb : Pr ov r b) : Pr ov r a := by
  rcases k.cases' with rfl | ⟨c, e, _⟩
  · exact hb
  · exact .inr (by omega)
theorem Tr.toRoot (h : Tr r found pl ov) (hr : r ∈ found) (hp : Pl found pl) : ∀ (k : Nat) (a : Nat), found.length - pl a ≤ k → Pr ov r a → Up ov a r
  | 0, a, hk, ha => by
    obtain ⟨h1, _⟩ := hp.at (h.mem hr ha)
    omega
  | k + 1, a, hk, ha => by
    rcases ha with rfl | ha
    · exact .refl _
    · obtain ⟨h1, c, e, h2, h3, h4⟩ := h.up a ha
      obtain ⟨h5, _⟩ := hp.at h1
      exact .step e (Tr.toRoot h hr hp k c (by omega) h4)
theorem Tr.root (h : Tr r found pl ov) {b : Nat} (k : Up ov r b) : b = r := by
  rcases k.cases' with e | ⟨c, e, _⟩
  · exact e.symm
  · rw [h.rt] at e; omega
end

/-- the nearest point over all those of a list that have been reached -/
def Near (ov : Nat → Int) (r : Nat) (l : List Nat) (a : Int) : Prop :=
  (a = -1 ∧ ∀ q ∈ l, ¬ Pr ov r q) ∨ ∃ c : Nat, a = (c : Int) ∧ Pr ov r c ∧ (∃ q ∈ l, Pr ov r q) ∧ (∀ q ∈ l, Pr ov r q → Up ov q c) ∧ ∀ y, (∀ q ∈ l, Pr ov r q → Up ov q y) → Up ov c y
theorem Near.nil {ov : Nat → Int} {r : Nat} : Near ov r [] (-1) := .inl ⟨rfl, by simp⟩
theorem Near.skip {ov : Nat → Int} {r : Nat} {l : List Nat} {a : Int} {q : Nat} (h : Near ov r l a) (hq : ¬ Pr ov r q) : Near ov r (l ++ [q]) a := by
  rcases h with ⟨h1, h2⟩ | ⟨c, h1, h2, ⟨q', h3, h3'⟩, h4, h5⟩
  · refine .inl ⟨h1, fun x hx => ?_⟩
    rcases List.mem_append.1 hx with hx | hx
    · exact h2 x hx
    · rw [List.mem_singleton.1 hx]; exact hq
  · refine .inr ⟨c, h1, h2, ⟨q', List.mem_append.2 (.inl h3), h3'⟩, fun x hx hp => ?_, fun y hy => h5 y (fun x hx hp => hy x (List.mem_append.2 (.inl hx)) hp)⟩
    rcases List.mem_append.1 hx with hx | hx
    · exact h4 x hx hp
    · rw [List.mem_singleton.1 hx] at hp; exact absurd hp hq
theorem Near.first {ov : Nat → Int} {r : Nat} {l : List Nat} {a : Int} {q : Nat} (h : Near ov r l a) (ha : a < 0) (hq : Pr ov r q) : Near ov r (l ++ [q]) (q : Int) := by
  rcases h with ⟨h1, h2⟩ | ⟨c, h1, _⟩
  · refine .inr ⟨q, rfl, hq, ⟨q, by simp, hq⟩, fun x hx hp => ?_, fun y hy => hy q (by simp) hq⟩
    rcases List.mem_append.1 hx with hx | hx
    · exact absurd hp (h2 x hx)
    · rw [List.mem_singleton.1 hx]; exact .refl _
  · omega
/-- where the ways up from two points meet -/
def Meets (ov : Nat → Int) (a b c : Nat) : Prop := Up ov a c ∧ Up ov b c ∧ ∀ y, Up ov a y → Up ov b y → Up ov c y
theorem Near.next {ov : Nat → Int} {r : Nat} {l : List Nat} {a q c : Nat} (h : Near ov r l (a : Int)) (hq : Pr ov r q) (hm : Meets ov a q c) (hc : Pr ov r c) : Near ov r (l ++ [q]) (c : Int) := by
  rcases h with ⟨h1, h2⟩ | ⟨d, h1, h2, ⟨q', h3, h3'⟩, h4, h5⟩
  · omega
  · have : d = a := by omega
    subst this
    refine .inr ⟨c, rfl, hc, ⟨q, by simp, hq⟩, fun x hx hp => ?_, fun y hy => ?_⟩
    · rcases List.mem_append.1 hx with hx | hx
      · exact (h4 x hx hp).trans hm.1
      · rw [List.mem_singleton.1 hx]; exact hm.2.1
    · exact hm.2.2 y (h5 y (fun x hx hp => hy x (List.mem_append.2 (.inl hx)) hp)) (hy q (by simp) hq)

def setO (f : Nat → Int) (x : Nat) (y : Int) : Nat → Int := fun v => if v = x then y else f v
section
variable {r : Nat} {found : List Nat} {pl : Nat → Nat} {ov : Nat → Int} {p c : Nat}
theorem setO_same (f : Nat → Int) (x : Nat) (y : Int) : setO f x y x = y := if_pos rfl
theorem setO_ne {f : Nat → Int} {x v : Nat} {y : Int} (h : v ≠ x) : setO f x y v = f v := if_neg h
/-- a way up that stands, if one step is set: up to that point it is as it was -/
theorem up_to {a v : Nat} (h : Up ov a v) : Up (setO ov p c) a v ∨ (Up (setO ov p c) a p ∧ Up ov a p ∧ Up ov p v ∧ p ≠ v) := by induction h with
  | refl a => exact .inl (.refl a)
  | @step a b v e k ih =>
    by_cases h1 : a = p
    · subst h1
      by_cases h2 : a = v
      · subst h2; exact .inl (.refl _)
      · exact .inr ⟨.refl _, .refl _, .step e k, h2⟩
    · have e' : setO ov p c a = (b : Int) := (setO_ne h1).trans e
      rcases ih with ih | ⟨i1, i2, i3, i4⟩
      · exact .inl (.step e' ih)
      · exact .inr ⟨.step e' i1, .step e i2, i3, i4⟩
theorem up_from (ht : Tr r found pl ov) (hpc : pl p < pl c) {a v : Nat} (h : Up (setO ov p (c : Int)) a v) : Up ov a v ∨ (Up ov a p ∧ Up ov c v) := by induction h with
  | refl a => exact .inl (.refl a)
  | @step a b v e k ih =>
    by_cases h1 : a = p
    · subst h1
      rw [setO_same] at e
      have : c = b := by omega
      subst this
      rcases ih with ih | ⟨i1, i2⟩
      · exact .inr ⟨.refl _, ih⟩
      · exact .inr ⟨.refl _, i2⟩
    · rw [setO_ne h1] at e
      rcases ih with ih | ⟨i1, i2⟩
      · exact .inl (.step e ih)
      · exact .inr ⟨.step e i1, i2⟩
end
end Go.Proofs.Ytbdpdbeekbbehaa
