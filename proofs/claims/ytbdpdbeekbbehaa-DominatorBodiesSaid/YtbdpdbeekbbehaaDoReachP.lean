/- What is proved: the reference's search in breadth, as mathematics. -/
import Derived.Test.YtbdpdbeekbbehaaDoQu
import Derived.Test.YtbdpdbeekbbehaaDoVis
set_option linter.unusedVariables false
namespace Go.Proofs.Ytbdpdbeekbbehaa
open Go.RowKit Go.Shelf

/-- the search under way: f: seen; q: to do -/
structure RI (E F : Nat → List Nat) (X : Nat → Prop) (fr n : Nat) (f : Nat → Bool) (q : List Nat) : Prop where
  src : f fr = true
  snd : ∀ v, f v = true → v < n ∧ Rch E X fr v
  inq : ∀ x ∈ q, f x = true
  nd : q.Nodup
  cl : ∀ u, f u = true → u ∈ q ∨ ∀ y ∈ F u, X y → f y = true
/-- the first j edges of v alone -/
def cutE (E : Nat → List Nat) (v j u : Nat) : List Nat := if u = v then (E v).take j else E u
section
variable {E : Nat → List Nat} {X : Nat → Prop} {fr n v j y : Nat} {f : Nat → Bool} {q : List Nat}
theorem RI.start (hX : X fr) (hn : fr < n) : RI E E X fr n (setS (fun _ => false) fr) [fr] := by
  refine ⟨by simp [setS], fun v hv => ?_, fun x hx => by rw [List.mem_singleton.1 hx]; simp [setS], by simp, fun u hu => .inl ?_⟩
  · unfold setS at hv
    split at hv
    · rename_i e; subst e; exact ⟨hn, .here hX⟩
    · cases hv
  · unfold setS at hu
    split at hu
    · rename_i e; subst e; simp
    · cases hu
theorem RI.pop (h : RI E E X fr n f (v :: q)) : RI E (cutE E v 0) X fr n f q := by
  refine ⟨h.src, h.snd, fun x hx => h.inq x (List.mem_cons_of_mem _ hx), (List.nodup_cons.1 h.nd).2, fun u hu => ?_⟩
  unfold cutE
  split
  · exact .inr (by simp)
  · rename_i hne
    rcases h.cl u hu with g | g
    · rcases List.mem_cons.1 g with e | g
      · exact absurd e hne
      · exact .inl g
    · exact .inr g
theorem RI.skip (h : RI E (cutE E v j) X fr n f q) (hj : j < (E v).length) (hy : (E v)[j] = y) (ho : X y → f y = true) : RI E (cutE E v (j + 1)) X fr n f q := by
  refine ⟨h.src, h.snd, h.inq, h.nd, fun u hu => ?_⟩
  rcases h.cl u hu with g | g
  · exact .inl g
  · refine .inr fun z hz => ?_
    unfold cutE at hz g
    split at hz
    · rename_i e
      rw [if_pos e] at g
      rw [List.take_succ_eq_append_getElem hj, hy] at hz
      rcases List.mem_append.1 hz with hz | hz
      · exact g z hz
      · rw [List.mem_singleton.1 hz]; exact ho
    · rename_i e
      rw [if_neg e] at g
      exact g z hz
theorem RI.push (h : RI E (cutE E v j) X fr n f q) (hv : f v = true) (hj : j < (E v).length) (hy : (E v)[j] = y) (hX : X y) (hf : f y = false) (hn : y < n) : RI E (cutE E v (j + 1)) X fr n (setS f y) (q ++ [y]) := by
  have mono : ∀ z, f z = true → setS f y z = true := fun z hz => by unfold setS; split; rfl; exact hz
  have hyE : y ∈ E v := hy ▸ List.getElem_mem hj
  refine ⟨mono _ h.src, fun z hz => ?_, fun z hz => ?_, ?_, fun u hu => ?_⟩
  · unfold setS at hz
    split at hz
    · rename_i e; subst e; exact ⟨hn, .step (h.snd v hv).2 hyE hX⟩
    · exact h.snd z hz
  · rcases List.mem_append.1 hz with hz | hz
    · exact mono z (h.inq z hz)
    · rw [List.mem_singleton.1 hz]; simp [setS]
  · rw [List.nodup_append]
    refine ⟨h.nd, by simp, fun a ha b hb e => ?_⟩
    rw [List.mem_singleton.1 hb] at e
    have := h.inq a ha
    rw [e, hf] at this
    cases this
  · unfold setS at hu
    split at hu
    · rename_i e; exact .inl (by simp [e])
    · rcases h.cl u hu with g | g
      · exact .inl (List.mem_append_left _ g)
      · refine .inr fun z hz hXz => ?_
        unfold cutE at hz g
        split at hz
        · rename_i e
          rw [if_pos e] at g
          rw [List.take_succ_eq_append_getElem hj, hy] at hz
          rcases List.mem_append.1 hz with hz | hz
          · exact mono z (g z hz hXz)
          · rw [List.mem_singleton.1 hz]; simp [setS]
        · rename_i e
          rw [if_neg e] at g
          exact mono z (g z hz hXz)
theorem RI.all (h : RI E (cutE E v (E v).length) X fr n f q) : RI E E X fr n f q :=
  ⟨h.src, h.snd, h.inq, h.nd, fun u hu => by
    rcases h.cl u hu with g | g
    · exact .inl g
    · refine .inr ?_
      unfold cutE at g
      split at g
      · rename_i e; subst e; rw [List.take_length] at g; exact g
      · exact g⟩
theorem RI.fin (h : RI E E X fr n f []) (v : Nat) : f v = true ↔ Rch E X fr v := by
  refine ⟨fun hv => (h.snd v hv).2, fun hr => ?_⟩
  induction hr with
  | here _ => exact h.src
  | @step b c _ h1 h2 ih =>
    rcases h.cl b ih with g | g
    · simp at g
    · exact g c h1 h2
theorem RI.len (h : RI E E X fr n f q) : q.length ≤ n := nodup_len h.nd fun x hx => (h.snd x (h.inq x hx)).1
theorem RI.len' {F : Nat → List Nat} (h : RI E F X fr n f q) : q.length ≤ n := nodup_len h.nd fun x hx => (h.snd x (h.inq x hx)).1
end
/-- append by what its run is -/
theorem wpList_append_by {P : Program} {w : World} {ops : Array Oper} {rest : List Oper} {o : Oper} {a : Act} {Q : Exit → Act → World → Prop} (hgd : o.guard = none) (s x : Operand) (t u : TypeId)
    (ho : o.op = .call { callee := .builtin .append, args := #[s, x], argTypes := #[t, u] }) (sv xv : Value) (hs : a.eval s = sv) (hx : a.eval x = xv) (v : Value) (w' : World)
    (hr : (Builtin.append_ #[t, u] o.type #[sv, xv]).run P w = .ok v w') (h : wpList P ops Q rest (a.put o.dst v) w') : wpList P ops Q (o :: rest) a w := by
  refine wpList_plain hgd fun K hK => ?_
  unfold Oper.wp execOp
  simp only [ho, resolve, invoke, builtin, Sem.run_bind, Sem.run_pure, Result.andThen_ok, List.map_toArray, List.map_cons, List.map_nil, hs, hx, hr]
  exact hK _ _ h
end Go.Proofs.Ytbdpdbeekbbehaa
