/- What is proved: what a search in depth visits, as mathematics. -/
import Derived.Test.YtbdpdbeekbbehaaDoIter
set_option linter.unusedVariables false
namespace Go.Proofs.Ytbdpdbeekbbehaa

def setS (f : Nat → Bool) (x : Nat) : Nat → Bool := fun v => if v = x then true else f v
/-- the points of a list are visited: L is found, and afterwards sn' is seen -/
structure Vis (E : Nat → List Nat) (n : Nat) (sn : Nat → Bool) (l L : List Nat) (sn' : Nat → Bool) : Prop where
  seen : ∀ v, sn' v = (sn v || decide (v ∈ L))
  nd : L.Nodup
  new : ∀ v ∈ L, sn v = false ∧ v < n ∧ ∃ x ∈ l, Rea E x v
  all : ∀ x ∈ l, sn' x = true
  cl : ∀ v ∈ L, ∀ x ∈ E v, sn' x = true
  par : ∀ v ∈ L, v ∈ l ∨ ∃ A B, L = A ++ v :: B ∧ ∃ q ∈ B, v ∈ E q
section
variable {E : Nat → List Nat} {n : Nat} {sn sn' sn2 : Nat → Bool} {l L M : List Nat} {x : Nat}
theorem Vis.nil (E : Nat → List Nat) (n : Nat) (sn : Nat → Bool) : Vis E n sn [] [] sn :=
  ⟨fun v => by simp, List.nodup_nil, by simp, by simp, by simp, by simp⟩
theorem Vis.skip (h : Vis E n sn l L sn') (hx : sn' x = true) : Vis E n sn (l ++ [x]) L sn' := by
  refine ⟨h.seen, h.nd, fun v hv => ?_, fun y hy => ?_, h.cl, fun v hv => ?_⟩
  · obtain ⟨h1, h2, y, h3, h4⟩ := h.new v hv
    exact ⟨h1, h2, y, List.mem_append.2 (.inl h3), h4⟩
  · rcases List.mem_append.1 hy with hy | hy
    · exact h.all y hy
    · rw [List.mem_singleton.1 hy]; exact hx
  · rcases h.par v hv with h1 | h1
    · exact .inl (List.mem_append.2 (.inl h1))
    · exact .inr h1
theorem Vis.more (h : Vis E n sn l L sn') (hx : sn' x = false) (hn : x < n) (k : Vis E n (setS sn' x) (E x) M sn2) : Vis E n sn (l ++ [x]) (L ++ (M ++ [x])) sn2 := by
  have s1 : ∀ v, sn' v = false ↔ (sn v = false ∧ v ∉ L) := fun v => by rw [h.seen]; simp
  have s2 : ∀ v, sn2 v = true ↔ (v = x ∨ sn' v = true ∨ v ∈ M) := fun v => by
    rw [k.seen]
    unfold setS
    by_cases e : v = x
    · simp [e]
    · simp [e]
  have mN : ∀ v ∈ M, v ≠ x ∧ sn' v = false := fun v hv => by
    have := (k.new v hv).1
    unfold setS at this
    by_cases e : v = x
    · rw [if_pos e] at this; cases this
    · rw [if_neg e] at this; exact ⟨e, this⟩
  have hxL := ((s1 x).1 hx).2
  refine ⟨fun v => ?_, ?_, fun v hv => ?_, fun y hy => ?_, fun v hv y hy => ?_, fun v hv => ?_⟩
  · have e : (sn2 v = true) ↔ ((sn v || decide (v ∈ L ++ (M ++ [x]))) = true) := by
      rw [s2, h.seen]
      simp only [Bool.or_eq_true, decide_eq_true_eq, List.mem_append, List.mem_singleton]
      constructor
      · rintro (h1 | (h1 | h1) | h1)
        · exact .inr (.inr (.inr h1))
        · exact .inl h1
        · exact .inr (.inl h1)
        · exact .inr (.inr (.inl h1))
      · rintro (h1 | h1 | h1 | h1)
        · exact .inr (.inl (.inl h1))
        · exact .inr (.inl (.inr h1))
        · exact .inr (.inr h1)
        · exact .inl h1
    exact Bool.eq_iff_iff.2 e
  · rw [List.nodup_append, List.nodup_append]
    refine ⟨h.nd, ⟨k.nd, by simp, fun a ha b hb => ?_⟩, fun a ha b hb => ?_⟩
    · rw [List.mem_singleton.1 hb]; exact (mN a ha).1
    · rcases List.mem_append.1 hb with hb | hb
      · rintro rfl
        exact ((s1 a).1 (mN a hb).2).2 ha
      · rw [List.mem_singleton.1 hb]
        rintro rfl
        exact hxL ha
  · rcases List.mem_append.1 hv with hv | hv
    · obtain ⟨h1, h2, y, h3, h4⟩ := h.new v hv
      exact ⟨h1, h2, y, List.mem_append.2 (.inl h3), h4⟩
    · rcases List.mem_append.1 hv with hv | hv
      · obtain ⟨_, h2, y, h3, h4⟩ := k.new v hv
        exact ⟨((s1 v).1 (mN v hv).2).1, h2, x, by simp, Rch.cons trivial h3 h4⟩
      · rw [List.mem_singleton.1 hv]
        exact ⟨((s1 x).1 hx).1, hn, x, by simp, .here trivial⟩
  · rcases List.mem_append.1 hy with hy | hy
    · exact (s2 y).2 (.inr (.inl (h.all y hy)))
    · exact (s2 y).2 (.inl (List.mem_singleton.1 hy))
  · rcases List.mem_append.1 hv with hv | hv
    · exact (s2 y).2 (.inr (.inl (h.cl v hv y hy)))
    · rcases List.mem_append.1 hv with hv | hv
      · exact k.cl v hv y hy
      · rw [List.mem_singleton.1 hv] at hy
        exact k.all y hy
  · rcases List.mem_append.1 hv with hv | hv
    · rcases h.par v hv with h1 | ⟨A, B, h1, q, h2, h3⟩
      · exact .inl (List.mem_append.2 (.inl h1))
      · refine .inr ⟨A, B ++ (M ++ [x]), by rw [h1]; simp, q, List.mem_append.2 (.inl h2), h3⟩
    · rcases List.mem_append.1 hv with hv | hv
      · rcases k.par v hv with h1 | ⟨A, B, h1, q, h2, h3⟩
        · obtain ⟨A, B, e⟩ := List.append_of_mem hv
          exact .inr ⟨L ++ A, B ++ [x], by rw [e]; simp, x, by simp, h1⟩
        · exact .inr ⟨L ++ A, B ++ [x], by rw [h1]; simp, q, List.mem_append.2 (.inl h2), h3⟩
      · exact .inl (List.mem_append.2 (.inr hv))
/-- what is not seen yet -/
def uns (n : Nat) (sn : Nat → Bool) : Nat := ((List.range n).filter (fun v => !sn v)).length
theorem filter_len_le {p q : Nat → Bool} : ∀ (l : List Nat), (∀ v ∈ l, p v = true → q v = true) → (l.filter p).length ≤ (l.filter q).length
  | [], _ => by simp
  | a :: l, h => by
    have ih := filter_len_le l fun v hv => h v (by simp [hv])
    have ha := h a (by simp)
    cases hp : p a with
    | false =>
      rw [List.filter_cons_of_neg (by simp [hp])]
      cases hq : q a with
      | false => rw [List.filter_cons_of_neg (by simp [hq])]; exact ih
      | true => rw [List.filter_cons_of_pos hq]; simp; omega
    | true =>
      rw [List.filter_cons_of_pos hp, List.filter_cons_of_pos (ha hp)]
      simp; omega
theorem filter_len_lt {p q : Nat → Bool} {x : Nat} (hp : p x = false) (hq : q x = true) : ∀ (l : List Nat), x ∈ l → (∀ v ∈ l, p v = true → q v = true) → (l.filter p).length < (l.filter q).length
  | [], h, _ => by simp at h
  | a :: l, h, hs => by
    by_cases e : a = x
    · subst e
      rw [List.filter_cons_of_neg (by simp [hp]), List.filter_cons_of_pos hq]
      have := filter_len_le l fun v hv => hs v (by simp [hv])
      simp; omega
    · have ih := filter_len_lt hp hq l (by simpa [Ne.symm e] using h) fun v hv => hs v (by simp [hv])
      have ha := hs a (by simp)
      cases hpa : p a with
      | false =>
        rw [List.filter_cons_of_neg (by simp [hpa])]
        cases hqa : q a with
        | false => rw [List.filter_cons_of_neg (by simp [hqa])]; exact ih
        | true => rw [List.filter_cons_of_pos hqa]; simp; omega
      | true =>
        rw [List.filter_cons_of_pos hpa, List.filter_cons_of_pos (ha hpa)]
        simp; omega
theorem uns_set (hn : x < n) (hx : sn x = false) : uns n (setS sn x) < uns n sn := by
  refine filter_len_lt (x := x) (by simp [setS]) (by simp [hx]) _ (by simpa using hn) fun v _ hv => ?_
  unfold setS at hv
  split at hv
  · simp at hv
  · exact hv
theorem Vis.uns (h : Vis E n sn l L sn') : uns n sn' ≤ uns n sn := by
  refine filter_len_le _ fun v _ hv => ?_
  rw [h.seen] at hv
  revert hv
  cases sn v <;> simp
theorem nodup_len {n : Nat} {l : List Nat} (hn : l.Nodup) (hl : ∀ x ∈ l, x < n) : l.length ≤ n := by
  induction n generalizing l with
  | zero => cases l with
    | nil => simp
    | cons a t => exact absurd (hl a (by simp)) (by omega)
  | succ n ih =>
    have h1 : (l.filter (· != n)).Nodup := hn.filter _
    have h2 := ih h1 (fun x hx => by
      have := List.mem_filter.1 hx
      have h3 := hl x this.1
      have h4 : x ≠ n := by simpa using this.2
      omega)
    have h3 : l.length ≤ (l.filter (· != n)).length + 1 := by
      clear ih h1 h2 hl
      induction l with
      | nil => simp
      | cons a t ih =>
        rw [List.nodup_cons] at hn
        by_cases e : a = n
        · subst e
          have : t.filter (· != a) = t := List.filter_eq_self.2 fun x hx => by
            have : x ≠ a := fun e => hn.1 (e ▸ hx)
            simpa using this
          simp [this]
        · have := ih hn.2
          simp [e]
          omega
    omega
/-- a search from one root -/
theorem Vis.post {r : Nat} (h : Vis E n (fun _ => false) [r] L sn') : Post E r L := by
  have hs : ∀ v, sn' v = true ↔ v ∈ L := fun v => by rw [h.seen]; simp
  have hr : r ∈ L := (hs r).1 (h.all r (by simp))
  have hpar : ∀ v ∈ L, v ≠ r → ∃ A B, L = A ++ v :: B ∧ ∃ q ∈ B, v ∈ E q := fun v hv hvr => by
    rcases h.par v hv with h1 | h1
    · exact absurd (by simpa using h1) hvr
    · exact h1
  refine ⟨h.nd, fun v => ⟨fun hv => ?_, fun hp => ?_⟩, ?_, fun v hv hvr => ?_⟩
  · obtain ⟨_, _, x, hx, hp⟩ := h.new v hv
    rw [List.mem_singleton.1 hx] at hp
    exact hp
  · induction hp with
    | here _ => exact hr
    | step _ hc _ ih => exact (hs _).1 (h.cl _ ih _ hc)
  · have hne : L ≠ [] := fun e => by rw [e] at hr; simp at hr
    obtain ⟨v, hv⟩ : ∃ v, L.getLast? = some v := ⟨_, List.getLast?_eq_some_getLast hne⟩
    rw [hv]
    by_cases e : v = r
    · rw [e]
    · exfalso
      obtain ⟨A, B, e1, q, hq, _⟩ := hpar v (List.mem_of_getLast? hv) e
      have hB : B ≠ [] := fun e => by rw [e] at hq; simp at hq
      have hnd := h.nd
      rw [e1, List.nodup_append, List.nodup_cons] at hnd
      have : v ∈ B := by
        rw [e1, List.getLast?_append, List.getLast?_cons] at hv
        have hb := List.getLast?_eq_some_getLast hB
        rw [hb] at hv
        simp at hv
        rw [← hv]
        exact List.getLast_mem hB
      exact hnd.2.1.1 this
  · obtain ⟨A, B, e1, q, hq, hvq⟩ := hpar v hv hvr
    obtain ⟨C, D, e2⟩ := List.append_of_mem hq
    subst e2
    subst e1
    refine ⟨A.length, A.length + 1 + C.length, by simp, by simp; omega, by omega, by simp, ?_⟩
    have : (A ++ v :: (C ++ q :: D))[A.length + 1 + C.length]'(by simp; omega) = q := by
      rw [List.getElem_append_right (by omega)]
      have e3 : A.length + 1 + C.length - A.length = C.length + 1 := by omega
      simp only [e3, List.getElem_cons_succ]
      rw [List.getElem_append_right (by omega)]
      simp
    rw [this]
    exact hvq
end
end Go.Proofs.Ytbdpdbeekbbehaa
