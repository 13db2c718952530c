/- What is proved: a value does not change if inputs that a node does not depend on change, as plain mathematics. -/
import Derived.Test.YtlnpgcdgpahdmaaDoorBvInps
import Derived.Test.YtlnpgcdgpahdmaaDoorBvDen
set_option linter.unusedVariables false
namespace Go.Proofs.YtlnpgcdgpahdmaaDoor
open Go.RowKit

theorem fit_same {W : Int} {x : Tm} {inp inp' : List Int} (h : isInp x = true → x.v.toNat < inp'.length ∧ inp'.getD x.v.toNat 0 = inp.getD x.v.toNat 0) (hf : fitB W x inp = true) : fitB W x inp' = true := by
  unfold fitB at hf ⊢
  by_cases h0 : x.op = 0
  · obtain ⟨h1, h2⟩ := h (by simp [isInp, h0])
    rw [if_pos h0] at hf ⊢
    rw [h2]
    simp only [Bool.and_eq_true, decide_eq_true_eq] at hf ⊢
    exact ⟨h1, hf.2⟩
  · rw [if_neg h0] at hf ⊢
    by_cases h1 : x.op = 1
    · obtain ⟨h2, h3⟩ := h (by simp [isInp, h1])
      rw [if_pos h1] at hf ⊢
      rw [h3]
      simp only [Bool.and_eq_true, decide_eq_true_eq] at hf ⊢
      exact ⟨h2, hf.2⟩
    · rw [if_neg h1]
theorem val_same {W : Int} {x : Tm} {f : Nat → Int} {inp inp' : List Int} (ho : 0 ≤ x.op ∧ x.op < 18) (h : isInp x = true → inp'.getD x.v.toNat 0 = inp.getD x.v.toNat 0) : valP W x f inp' = valP W x f inp := by
  obtain ⟨h1, h2⟩ := o_lt ho.1 ho.2
  unfold valP valQ
  unfold isInp at h
  rw [h2] at h
  rcases o_cases h1 with e | e | e | e | e | e | e | e | e | e | e | e | e | e | e | e | e | e <;> rw [e] at h ⊢
  · exact h rfl
  · exact h rfl
  all_goals rfl
theorem ev_same {W : Int} {l : List Tm} {m : Nat → Bool} {inp inp' : List Int} (ho : ∀ k (h : k < l.length), 0 ≤ l[k].op ∧ l[k].op < 18) (hin : ∀ k (h : k < l.length), m k = true → isInp l[k] = true → l[k].v.toNat < inp'.length ∧ inp'.getD l[k].v.toNat 0 = inp.getD l[k].v.toNat 0) : ∀ n, n ≤ l.length → ∀ f, evS W l m inp n = some f → evS W l m inp' n = some f := by
  intro n
  induction n with
  | zero => intro _ f h; exact h
  | succ n ih =>
    intro hn f h
    obtain ⟨g, hg⟩ := ev_some h (show n ≤ n + 1 by omega)
    have hg' := ih (by omega) g hg
    rw [evS_succ hg (by omega)] at h
    rw [evS_succ hg' (by omega)]
    cases hm : m n with
    | false => rw [hm] at h; exact h
    | true =>
      rw [hm, if_pos rfl] at h
      rw [if_pos rfl]
      split at h
      · rename_i hf
        have hi := hin n (by omega) hm
        rw [if_pos (fit_same hi hf), val_same (ho n (by omega)) (fun e => (hi e).2)]
        exact h
      · cases h
theorem ev_fits {W : Int} {l : List Tm} {m : Nat → Bool} {inp : List Int} {n : Nat} {f : Nat → Int} (h : evS W l m inp n = some f) {k : Nat} (hk : k < n) (hl : k < l.length) (hm : m k = true) : fitB W l[k] inp = true := by
  obtain ⟨g, hg⟩ := ev_some h (show k + 1 ≤ n by omega)
  obtain ⟨g0, hg0⟩ := ev_some hg (show k ≤ k + 1 by omega)
  rw [evS_succ hg0 hl, if_pos hm] at hg
  split at hg
  · assumption
  · cases hg
/-- what an answer without error is -/
theorem evP_ok {W : Int} {l : List Tm} {i : Nat} {inp : List Int} {v : Int} (hi : i < l.length) (h : evP W l (i : Int) inp = (v, 0)) : ∃ f, evS W l (mrk l i) inp (i + 1) = some f ∧ f i = v := by
  unfold evP at h
  rw [if_pos (by omega), Int.toNat_natCast] at h
  cases hp : evS W l (mrk l i) inp (i + 1) with
  | none => rw [hp] at h; simp at h
  | some f => rw [hp] at h; simp at h; exact ⟨f, rfl, h⟩
theorem inp_of {W : Int} {l : List Tm} (ht : TbOk W l) {i : Nat} (hi : i < l.length) {n : Nat} (h : n ∈ inpN l (i : Int)) : ∃ k, ∃ hk : k < l.length, k < i + 1 ∧ mrk l i k = true ∧ isInp l[k] = true ∧ l[k].v = (n : Int) := by
  unfold inpN at h
  obtain ⟨_, h2⟩ := List.mem_filter.1 h
  obtain ⟨k, hk, hat⟩ := List.any_eq_true.1 h2
  have hkl := prtZ_lt ht _ k hk
  unfold prtZ at hk
  rw [if_pos (by omega), Int.toNat_natCast] at hk
  unfold prt at hk
  obtain ⟨hk1, hk2⟩ := List.mem_filter.1 hk
  unfold inpAt at hat
  rw [List.getElem?_eq_getElem hkl] at hat
  simp only [Bool.and_eq_true, beq_iff_eq] at hat
  exact ⟨k, hkl, by simpa using hk1, hk2, hat.1, hat.2⟩
theorem inp_has {W : Int} {l : List Tm} (ht : TbOk W l) {i : Nat} (hi : i < l.length) {k : Nat} (hk : k < l.length) (hm : mrk l i k = true) (hin : isInp l[k] = true) : l[k].v.toNat ∈ inpN l (i : Int) := by
  have hv := val_nn (ht.node hk).2.2.1 (by simpa [isInp] using hin)
  unfold inpN
  refine List.mem_filter.2 ⟨by simp; omega, List.any_eq_true.2 ⟨k, ?_, ?_⟩⟩
  · unfold prtZ
    rw [if_pos (by omega), Int.toNat_natCast]
    have := mrk_le ht hi hm
    exact List.mem_filter.2 ⟨by simp; omega, hm⟩
  · unfold inpAt
    rw [List.getElem?_eq_getElem hk]
    simp only [hin, Bool.true_and, beq_iff_eq]
    omega
/-- the other inputs, with those that are needed put in -/
def mixS (inp m : List Int) (n : Nat) : List Int := (m ++ List.replicate (n + 1 - m.length) 6144).set n (inp.getD n 0)
def mixL (inp oth : List Int) (ns : List Nat) : List Int := ns.foldl (mixS inp) oth
theorem mix_snoc (inp oth : List Int) (ns : List Nat) (k : Nat) (hk : k < ns.length) : mixL inp oth (ns.take (k + 1)) = mixS inp (mixL inp oth (ns.take k)) ns[k] := by
  unfold mixL
  rw [List.take_succ_eq_append_getElem hk, List.foldl_append]
  rfl
theorem mixS_len (inp m : List Int) (n : Nat) : n < (mixS inp m n).length ∧ m.length ≤ (mixS inp m n).length ∧ (mixS inp m n).length ≤ m.length + (n + 1) := by
  unfold mixS
  simp
  omega
theorem mixS_get (inp m : List Int) (n j : Nat) (hj : j < m.length ∨ j = n) : (mixS inp m n).getD j 0 = if j = n then inp.getD n 0 else m.getD j 0 := by
  unfold mixS
  by_cases e : j = n
  · subst e
    rw [if_pos rfl, List.getD_eq_getElem?_getD, List.getElem?_set_self (by simp; omega)]
    rfl
  · rw [if_neg e, List.getD_eq_getElem?_getD, List.getElem?_set_ne (fun h => e h.symm)]
    have hjm : j < m.length := by rcases hj with h | h; exact h; exact absurd h e
    rw [List.getElem?_append_left hjm, ← List.getD_eq_getElem?_getD]
theorem mix_ok (inp oth : List Int) (ns : List Nat) : ∀ k, k ≤ ns.length → ∀ n ∈ ns.take k, n < (mixL inp oth (ns.take k)).length ∧ (mixL inp oth (ns.take k)).getD n 0 = inp.getD n 0 := by
  intro k
  induction k with
  | zero => intro _ n h; simp at h
  | succ k ih =>
    intro hk n hn
    rw [mix_snoc inp oth ns k (by omega)]
    have hl := mixS_len inp (mixL inp oth (ns.take k)) (ns[k]'(by omega))
    rw [List.take_succ_eq_append_getElem (by omega), List.mem_append, List.mem_singleton] at hn
    rcases hn with hn | rfl
    · obtain ⟨h1, h2⟩ := ih (by omega) n hn
      refine ⟨by omega, ?_⟩
      rw [mixS_get _ _ _ _ (.inl h1)]
      split
      · rename_i e; rw [e]
      · exact h2
    · exact ⟨hl.1, by rw [mixS_get _ _ _ _ (.inr rfl), if_pos rfl]⟩
theorem mix_len (inp oth : List Int) (ns : List Nat) (hns : ∀ n ∈ ns, n < 24) : ∀ k, k ≤ ns.length → (mixL inp oth (ns.take k)).length ≤ oth.length + k * 24 := by
  intro k
  induction k with
  | zero => intro _; simp [mixL]
  | succ k ih =>
    intro hk
    rw [mix_snoc inp oth ns k (by omega)]
    have hl := mixS_len inp (mixL inp oth (ns.take k)) (ns[k]'(by omega))
    have h1 := ih (by omega)
    have h2 := hns _ (List.getElem_mem (show k < ns.length by omega))
    omega
theorem inpN_lt (l : List Tm) (i : Int) : ∀ n ∈ inpN l i, n < 24 := by
  intro n h
  have := (List.mem_filter.1 h).1
  simpa using this
theorem inpN_len (l : List Tm) (i : Int) : (inpN l i).length ≤ 24 := by
  unfold inpN
  have := List.length_filter_le (fun n => (prtZ l i).any (inpAt l n)) (List.range 24)
  simpa using this
section
variable {W : Int} {l : List Tm} {i : Nat} {inp : List Int} {v : Int}
theorem sup_ev (ht : TbOk W l) (hi : i < l.length) (h : evP W l (i : Int) inp = (v, 0)) (oth : List Int) : evP W l (i : Int) (mixL inp oth (inpN l (i : Int))) = (v, 0) := by
  obtain ⟨f, hf, rfl⟩ := evP_ok hi h
  have hm := mix_ok inp oth (inpN l (i : Int)) (inpN l (i : Int)).length (Nat.le_refl _)
  rw [List.take_length] at hm
  have := ev_same (inp' := mixL inp oth (inpN l (i : Int))) (fun k hk => ⟨(ht.node hk).1, (ht.node hk).2.1⟩) (fun k hk h1 h2 => hm _ (inp_has ht hi hk h1 h2)) (i + 1) (by omega) f hf
  unfold evP
  rw [if_pos (by omega), Int.toNat_natCast, this]
theorem sup_lt (ht : TbOk W l) (hi : i < l.length) (h : evP W l (i : Int) inp = (v, 0)) : ∀ n ∈ inpN l (i : Int), n < inp.length := by
  intro n hn
  obtain ⟨f, hf, rfl⟩ := evP_ok hi h
  obtain ⟨k, hk, h1, h2, h3, h4⟩ := inp_of ht hi hn
  have := fit_inp (ev_fits hf h1 hk h2) (by simpa [isInp] using h3)
  omega
theorem sup_rng (hW : ¬ (W < 2 ∨ 8 < W)) (ht : TbOk W l) (hi : i < l.length) (h : evP W l (i : Int) inp = (v, 0)) : rng W (srt l[i].o) v := by
  obtain ⟨f, hf, rfl⟩ := evP_ok hi h
  exact ev_rng hW ht (i + 1) (by omega) f hf i hi
end
end Go.Proofs.YtlnpgcdgpahdmaaDoor
