/- What is proved: plain facts: the plain parser gives a tree of every text; it never goes back. -/
import Derived.Test.YtnpcfmoiiecadaaDoorParRead
set_option linter.unusedVariables false
namespace Go.Proofs.YtnpcfmoiiecadaaDoor.Par
open Lx (Tok)

theorem tk_out {E : Env} {i : Nat} (h : E.T.length ≤ i) : (tk E i).kind = 5 := by
  unfold tk
  rw [List.getD_eq_getElem?_getD, List.getElem?_eq_none h]
  rfl
theorem knd_lt {E : Env} {p : St} (h : knd E p ≠ 5) : p.k < E.T.length := by
  rcases Nat.lt_or_ge p.k E.T.length with h1 | h1
  · exact h1
  · exact absurd (tk_out h1) h
theorem isW_lt {E : Env} {p : St} {x : ByteArray} (h : isW E p x = true) : p.k < E.T.length :=
  knd_lt (fun e => by unfold isW at h; rw [e] at h; cases h)
theorem stops_lt {E : Env} {p : St} (h : stops E p = false) : p.k < E.T.length :=
  knd_lt (fun e => by unfold stops at h; rw [e] at h; simp at h)
theorem rd_k (E : Env) (p : St) : (rd E p).k = p.k + 1 := rfl
theorem rep_k (E : Env) (p : St) (c : Int) (x : ByteArray) : (rep E p c x).k = p.k := by
  unfold rep
  split <;> rfl
theorem exq_k (E : Env) (p : St) (x : ByteArray) : p.k ≤ (exq E p x).k := by
  unfold exq
  split
  · rw [rd_k]; omega
  · rw [rep_k]; omega
theorem nam_k (E : Env) (p : St) : p.k ≤ (nam E p).2.k := by
  unfold nam
  split
  · show p.k ≤ (rd E p).k; rw [rd_k]; omega
  · show p.k ≤ (rep E p 4 _).k; rw [rep_k]; omega
theorem nam_k1 (E : Env) (p : St) (h : knd E p = 0) : (nam E p).2.k = p.k + 1 := by
  unfold nam
  rw [if_pos h]; rfl
theorem typ_k (E : Env) (p : St) : p.k ≤ (typ E p).2.k := by
  have h1 := rd_k E p
  unfold typ
  repeat' split
  all_goals first
    | (show p.k ≤ (rd E p).k; omega)
    | (show p.k ≤ (exq E (rd E (rd E (rd E p))) _).k
       refine Nat.le_trans ?_ (exq_k E _ _)
       rw [rd_k, rd_k, rd_k]; omega)
    | (show p.k ≤ (exq E (rep E (rd E (rd E p)) 4 _) _).k
       refine Nat.le_trans ?_ (exq_k E _ _)
       rw [rep_k, rd_k, rd_k]; omega)
    | (show p.k ≤ (rep E p 4 _).k; rw [rep_k]; omega)
theorem opt_k (E : Env) (p : St) : p.k ≤ (opt E p).2.k := by
  unfold opt
  split
  · exact Nat.le_trans (by rw [rd_k]; omega) (typ_k E (rd E p))
  · exact Nat.le_refl _
theorem fld_k (E : Env) (p : St) : p.k ≤ (fld E p).2.k := by
  have h := Nat.le_trans (nam_k E p) (exq_k E (nam E p).2 (⟨#[58]⟩ : ByteArray))
  unfold fld
  dsimp only
  split
  · show p.k ≤ (rd E _).k; rw [rd_k]; omega
  · show p.k ≤ (rep E _ 4 _).k; rw [rep_k]; omega
theorem par_k (E : Env) (p : St) : p.k ≤ (par E p).2.k := by
  unfold par
  refine Nat.le_trans ?_ (opt_k E _)
  refine Nat.le_trans ?_ (nam_k E _)
  split
  · rw [rd_k]; omega
  · exact Nat.le_refl _
theorem var_k (E : Env) (p : St) : p.k ≤ (var_ E p).2.k := nam_k E p
theorem var_k1 (E : Env) (p : St) (h : knd E p = 0) : (var_ E p).2.k = p.k + 1 := nam_k1 E p h

/-- it gives a tree, and does not go back -/
def Go (o : Option (NT × St)) (k : Nat) : Prop := ∃ m q, o = some (m, q) ∧ k ≤ q.k
theorem Go.mono {o : Option (NT × St)} {k k' : Nat} (h : Go o k) (hk : k' ≤ k) : Go o k' := by
  obtain ⟨m, q, h1, h2⟩ := h
  exact ⟨m, q, h1, Nat.le_trans hk h2⟩
theorem Go.map {o : Option (NT × St)} {k k' : Nat} (h : Go o k) (f : NT × St → NT × St) (hf : ∀ x, k ≤ x.2.k → k' ≤ (f x).2.k) : Go (o.map f) k' := by
  obtain ⟨m, q, rfl, h2⟩ := h
  exact ⟨_, _, rfl, hf _ h2⟩
theorem Go.bind {o : Option (NT × St)} {k k' : Nat} (h : Go o k) (f : NT × St → Option (NT × St)) (hf : ∀ x, k ≤ x.2.k → Go (f x) k') : Go (o.bind f) k' := by
  obtain ⟨m, q, rfl, h2⟩ := h
  exact hf _ h2
theorem Go.some {x : NT × St} {k : Nat} (h : k ≤ x.2.k) : Go (some x) k := ⟨_, _, rfl, h⟩
/-- the same of rows -/
def GoL (o : Option (List NT × St)) (k : Nat) : Prop := ∃ m q, o = some (m, q) ∧ k ≤ q.k
theorem GoL.map {o : Option (List NT × St)} {k k' : Nat} (h : GoL o k) (f : List NT × St → NT × St) (hf : ∀ x, k ≤ x.2.k → k' ≤ (f x).2.k) : Go (o.map f) k' := by
  obtain ⟨m, q, rfl, h2⟩ := h
  exact ⟨_, _, rfl, hf _ h2⟩
theorem GoL.mapL {o : Option (List NT × St)} {k k' : Nat} (h : GoL o k) (f : List NT × St → List NT × St) (hf : ∀ x, k ≤ x.2.k → k' ≤ (f x).2.k) : GoL (o.map f) k' := by
  obtain ⟨m, q, rfl, h2⟩ := h
  exact ⟨_, _, rfl, hf _ h2⟩
theorem Go.bindL {o : Option (NT × St)} {k k' : Nat} (h : Go o k) (f : NT × St → Option (List NT × St)) (hf : ∀ x, k ≤ x.2.k → GoL (f x) k') : GoL (o.bind f) k' := by
  obtain ⟨m, q, rfl, h2⟩ := h
  exact hf _ h2
theorem more_go {E : Env} {el : St → Option (NT × St)} {k : Nat} (hel : ∀ q, k ≤ q.k → Go (el q) q.k) : ∀ (f : Nat) (ks : List NT) (p : St), k ≤ p.k → E.T.length - p.k < f → GoL (more E el f ks p) p.k
  | 0, _, _, _, h => by omega
  | f + 1, ks, p, hk, hf => by
    unfold more
    cases hx : isW E p (⟨#[44]⟩ : ByteArray) with
    | false => exact ⟨_, _, rfl, Nat.le_refl _⟩
    | true =>
      have hl := isW_lt hx
      have hr := rd_k E p
      refine Go.bindL (hel (rd E p) (by omega)) _ (fun x hx2 => ?_)
      obtain ⟨m, q, h1, h2⟩ := more_go (E := E) (k := k) hel f (ks ++ [x.1]) x.2 (by omega) (by omega)
      exact ⟨m, q, h1, by omega⟩
theorem skipT_go {E : Env} (first : Nat) : ∀ (f : Nat) (p : St), E.T.length - p.k < f → ∃ q, skipT E first f p = some q ∧ p.k ≤ q.k ∧ (stops E p = false → p.k = first → p.k < q.k)
  | 0, _, h => by omega
  | f + 1, p, hf => by
    unfold skipT
    cases hs : stops E p with
    | true => exact ⟨p, by simp, Nat.le_refl _, fun h => by cases h⟩
    | false =>
      have hl := stops_lt hs
      have hr := rd_k E p
      cases hc : (p.k == first || !begins E p) with
      | false => exact ⟨p, by simp, Nat.le_refl _, fun _ h => by rw [h] at hc; simp at hc⟩
      | true =>
        by_cases he : eqS (wd E p.k) (⟨#[59]⟩ : ByteArray) = true
        · exact ⟨rd E p, by simp [he], by omega, fun _ _ => by omega⟩
        · obtain ⟨q, h1, h2, _⟩ := skipT_go (E := E) first f (rd E p) (by omega)
          exact ⟨q, by simp [he]; exact h1, by omega, fun _ _ => by omega⟩
theorem skipped_go (E : Env) (p : St) : ∃ m q, skipped E p = some (m, q) ∧ p.k ≤ q.k ∧ (stops E p = false → p.k < q.k) := by
  have hr := rep_k E p 6 (⟨#[]⟩ : ByteArray)
  obtain ⟨q, h1, h2, h3⟩ := skipT_go (E := E) p.k (fuel E) (rep E p 6 (⟨#[]⟩ : ByteArray)) (by unfold fuel; omega)
  refine ⟨mkN E q p.k 1 (⟨#[]⟩ : ByteArray) [], q, ?_, by omega, fun hs => ?_⟩
  · unfold skipped; rw [h1]; rfl
  · have hs' : stops E (rep E p 6 (⟨#[]⟩ : ByteArray)) = false := by
      have e : ∀ x, isW E (rep E p 6 (⟨#[]⟩ : ByteArray)) x = isW E p x := fun x => by unfold isW knd; rw [hr]
      have e2 : knd E (rep E p 6 (⟨#[]⟩ : ByteArray)) = knd E p := by unfold knd; rw [hr]
      unfold stops at hs ⊢
      rw [e, e, e, e2]; exact hs
    have := h3 hs' hr
    omega

/-- what the functions that call each other give, with enough recursions -/
structure RG (E : Env) (n : Nat) (R : Rec) : Prop where
  ex : ∀ (lvl : Nat) (p : St), 1 ≤ lvl → lvl ≤ 7 → 12 * (E.T.length - p.k) + (8 - lvl) ≤ n → Go (R.ex lvl p) p.k
  blk : ∀ p : St, 12 * (E.T.length - p.k) + 1 ≤ n → Go (R.blk p) p.k
  br : ∀ p : St, isW E p (⟨#[105, 102]⟩ : ByteArray) = true → 12 * (E.T.length - p.k) + 1 ≤ n → Go (R.br p) (p.k + 1)
  stm : ∀ p : St, 12 * (E.T.length - p.k) + 2 ≤ n → Go (R.stm p) p.k ∧ (stops E p = false → Go (R.stm p) (p.k + 1))
section
variable {E : Env} {n : Nat} {R : Rec}
theorem args_go (h : RG E n R) {p : St} (hp : 12 * (E.T.length - (p.k + 1)) + 7 ≤ n) : GoL (args E R p) (p.k + 1) := by
  have hr := rd_k E p
  unfold args
  dsimp only
  split
  · exact ⟨_, _, rfl, Nat.le_trans (by omega) (exq_k E _ _)⟩
  · refine Go.bindL (h.ex 1 (rd E p) (by omega) (by omega) (by omega)) _ (fun x hx => ?_)
    have hm := more_go (E := E) (el := R.ex 1) (k := p.k + 1) (fun q hq => h.ex 1 q (by omega) (by omega) (by omega)) (fuel E) [x.1] x.2 (by omega) (by unfold fuel; omega)
    exact hm.mapL _ (fun y hy => Nat.le_trans (by omega) (exq_k E _ _))
theorem place_go (h : RG E n R) {p : St} (h0 : knd E p = 0) (hp : 12 * (E.T.length - (p.k + 1)) + 7 ≤ n) : Go (place E R p) (p.k + 1) := by
  have hv := var_k1 E p h0
  unfold place
  dsimp only
  split
  · refine (h.ex 1 (rd E (var_ E p).2) (by omega) (by omega) (by rw [rd_k]; omega)).map _ (fun y hy => ?_)
    refine Nat.le_trans ?_ (exq_k E _ _)
    rw [rd_k] at hy; omega
  · split
    · refine Go.some (Nat.le_trans ?_ (nam_k E _))
      rw [rd_k]; omega
    · exact Go.some (by omega)
theorem operand_go (h : RG E n R) {p : St} (hp : p.k < E.T.length → 12 * (E.T.length - (p.k + 1)) + 7 ≤ n) : Go (operand E R p) p.k := by
  have hr := rd_k E p
  unfold operand
  by_cases h1 : knd E p = 2
  · rw [if_pos h1]; exact Go.some (by show p.k ≤ (rd E p).k; omega)
  rw [if_neg h1]
  by_cases h2 : (isW E p (⟨#[116, 114, 117, 101]⟩ : ByteArray) || isW E p (⟨#[102, 97, 108, 115, 101]⟩ : ByteArray)) = true
  · rw [if_pos h2]; exact Go.some (by show p.k ≤ (rd E p).k; omega)
  rw [if_neg h2]
  by_cases h3 : (decide (knd E p = 0) && behindW E p (⟨#[40]⟩ : ByteArray)) = true
  · rw [if_pos h3]
    have h0 : knd E p = 0 := by simp only [Bool.and_eq_true, decide_eq_true_eq] at h3; exact h3.1
    have hl := knd_lt (E := E) (p := p) (by rw [h0]; decide)
    exact (args_go h (p := rd E p) (by have := hp hl; rw [hr]; omega)).map _ (fun y hy => by show p.k ≤ y.2.k; omega)
  rw [if_neg h3]
  by_cases h4 : knd E p = 0
  · rw [if_pos h4]
    have hl := knd_lt (E := E) (p := p) (by rw [h4]; decide)
    exact (place_go h h4 (hp hl)).mono (by omega)
  rw [if_neg h4]
  by_cases h5 : isW E p (⟨#[91]⟩ : ByteArray) = true
  · rw [if_pos h5]
    have hl := hp (isW_lt h5)
    refine (h.ex 1 (rd E p) (by omega) (by omega) (by omega)).bind _ (fun x hx => ?_)
    have hm := more_go (E := E) (el := R.ex 1) (k := p.k + 1) (fun q hq => h.ex 1 q (by omega) (by omega) (by omega)) (fuel E) [x.1] x.2 (by omega) (by unfold fuel; omega)
    exact hm.map _ (fun y hy => Nat.le_trans (by omega) (exq_k E _ _))
  rw [if_neg h5]
  by_cases h6 : isW E p (⟨#[108, 101, 110]⟩ : ByteArray) = true
  · rw [if_pos h6]
    refine Go.some (Nat.le_trans ?_ (exq_k E _ _))
    refine Nat.le_trans ?_ (var_k E _)
    exact Nat.le_trans (by omega) (exq_k E _ _)
  rw [if_neg h6]
  by_cases h7 : isW E p (⟨#[40]⟩ : ByteArray) = true
  · rw [if_pos h7]
    have hl := hp (isW_lt h7)
    exact (h.ex 1 (rd E p) (by omega) (by omega) (by omega)).map _ (fun x hx => Nat.le_trans (by omega) (exq_k E _ _))
  · rw [if_neg h7]; exact Go.some (by show p.k ≤ (rep E p 5 _).k; rw [rep_k]; omega)
theorem oper_lt {lvl : Nat} {p : St} (h : oper E lvl p = true) : p.k < E.T.length :=
  knd_lt (fun e => by unfold oper at h; rw [e] at h; cases h)
theorem binL_go (lvl first k : Nat) (hel : ∀ q : St, k ≤ q.k → Go (R.ex (lvl + 1) q) q.k) : ∀ (f : Nat) (x : NT) (p : St), k ≤ p.k → E.T.length - p.k < f → Go (binL E R lvl first f x p) p.k
  | 0, _, _, _, h => by omega
  | f + 1, x, p, hk, hf => by
    unfold binL
    cases hx : oper E lvl p with
    | false => exact Go.some (Nat.le_refl _)
    | true =>
      have hl := oper_lt hx
      have hr := rd_k E p
      rw [if_pos rfl]
      refine (hel (rd E p) (by omega)).bind _ (fun y hy => ?_)
      split
      · exact Go.some (by show p.k ≤ y.2.k; omega)
      · exact (binL_go lvl first k hel f _ y.2 (by omega) (by omega)).mono (by omega)
theorem exS_go (h : RG E n R) (lvl : Nat) (p : St) (h1 : 1 ≤ lvl) (h7 : lvl ≤ 7) (hn : 12 * (E.T.length - p.k) + (8 - lvl) ≤ n + 1) : Go (exS E R lvl p) p.k := by
  have hr := rd_k E p
  unfold exS
  by_cases h3 : lvl = 3
  · rw [if_pos h3]
    subst h3
    cases hx : isW E p (⟨#[110, 111, 116]⟩ : ByteArray) with
    | true =>
      have hl := isW_lt hx
      exact (h.ex 3 (rd E p) (by omega) (by omega) (by omega)).map _ (fun x hx => by show p.k ≤ x.2.k; omega)
    | false => exact h.ex 4 p (by omega) (by omega) (by omega)
  rw [if_neg h3]
  by_cases h77 : lvl = 7
  · rw [if_pos h77]
    subst h77
    cases hx : isW E p (⟨#[45]⟩ : ByteArray) with
    | true =>
      have hl := isW_lt hx
      exact (h.ex 7 (rd E p) (by omega) (by omega) (by omega)).map _ (fun x hx => by show p.k ≤ x.2.k; omega)
    | false => exact operand_go h (fun hl => by omega)
  rw [if_neg h77]
  refine (h.ex (lvl + 1) p (by omega) (by omega) (by omega)).bind _ (fun x hx => ?_)
  exact (binL_go lvl p.k p.k (fun q hq => h.ex (lvl + 1) q (by omega) (by omega) (by omega)) (fuel E) x.1 x.2 hx (by unfold fuel; omega)).mono hx
theorem stmL_go (h : RG E n R) {k : Nat} (hn : 12 * (E.T.length - k) + 2 ≤ n) : ∀ (f : Nat) (ks : List NT) (p : St), k ≤ p.k → E.T.length - p.k < f → GoL (stmL E R f ks p) p.k
  | 0, _, _, _, hf => by omega
  | f + 1, ks, p, hk, hf => by
    unfold stmL
    cases hs : stops E p with
    | true => exact ⟨_, _, rfl, Nat.le_refl _⟩
    | false =>
      have hl := stops_lt hs
      rw [if_neg (by simp)]
      refine Go.bindL ((h.stm p (by omega)).2 hs) _ (fun x hx => ?_)
      obtain ⟨m, q, h1, h2⟩ := stmL_go h hn f (ks ++ [x.1]) x.2 (by omega) (by omega)
      exact ⟨m, q, h1, by omega⟩
theorem blkS_go (h : RG E n R) (p : St) (hn : 12 * (E.T.length - p.k) + 1 ≤ n + 1) : Go (blkS E R p) p.k := by
  have hr := rd_k E p
  unfold blkS
  cases hx : isW E p (⟨#[123]⟩ : ByteArray) with
  | true =>
    have hl := isW_lt hx
    exact (stmL_go h (k := p.k + 1) (by omega) (fuel E) [] (rd E p) (by omega) (by unfold fuel; omega)).map _ (fun y hy => Nat.le_trans (by omega) (exq_k E _ _))
  | false => exact Go.some (by show p.k ≤ (rep E p 4 _).k; rw [rep_k]; omega)
theorem brS_go (h : RG E n R) (p : St) (hi : isW E p (⟨#[105, 102]⟩ : ByteArray) = true) (hn : 12 * (E.T.length - p.k) + 1 ≤ n + 1) : Go (brS E R p) (p.k + 1) := by
  have hr := rd_k E p
  have hl := isW_lt hi
  unfold brS
  refine (h.ex 1 (rd E p) (by omega) (by omega) (by omega)).bind _ (fun c hc => ?_)
  refine (h.blk c.2 (by omega)).bind _ (fun b hb => ?_)
  have hrb := rd_k E b.2
  refine Go.map (k := p.k + 1) ?_ _ (fun o ho => ho)
  split
  · split
    · rename_i hx
      exact (h.br (rd E b.2) hx (by omega)).mono (by omega)
    · exact (h.blk (rd E b.2) (by omega)).mono (by omega)
  · exact Go.some (by show p.k + 1 ≤ b.2.k; omega)
theorem stmS_go (h : RG E n R) (p : St) (hn : 12 * (E.T.length - p.k) + 2 ≤ n + 1) : Go (stmS E R p) p.k ∧ (stops E p = false → Go (stmS E R p) (p.k + 1)) := by
  have hr := rd_k E p
  by_cases hsk : stmS E R p = skipped E p
  · obtain ⟨m, q, e, h1, h2⟩ := skipped_go E p
    rw [hsk, e]
    exact ⟨⟨_, _, rfl, h1⟩, fun hs => ⟨_, _, rfl, h2 hs⟩⟩
  have key : Go (stmS E R p) (p.k + 1) := by
    unfold stmS at hsk ⊢
    by_cases h1 : isW E p (⟨#[118, 97, 114]⟩ : ByteArray) = true
    · rw [if_pos h1]
      have hl := isW_lt h1
      have e1 := nam_k E (rd E p)
      have e2 := opt_k E (nam E (rd E p)).2
      have e3 := exq_k E (opt E (nam E (rd E p)).2).2 (⟨#[61]⟩ : ByteArray)
      exact (h.ex 1 _ (by omega) (by omega) (by omega)).map _ (fun x hx => Nat.le_trans (by omega) (exq_k E _ _))
    rw [if_neg h1] at hsk ⊢
    by_cases h2 : isW E p (⟨#[105, 102]⟩ : ByteArray) = true
    · rw [if_pos h2]
      exact h.br p h2 (by omega)
    rw [if_neg h2] at hsk ⊢
    by_cases h3 : isW E p (⟨#[119, 104, 105, 108, 101]⟩ : ByteArray) = true
    · rw [if_pos h3]
      have hl := isW_lt h3
      refine (h.ex 1 (rd E p) (by omega) (by omega) (by omega)).bind _ (fun c hc => ?_)
      exact (h.blk c.2 (by omega)).map _ (fun b hb => by show p.k + 1 ≤ b.2.k; omega)
    rw [if_neg h3] at hsk ⊢
    by_cases h4 : isW E p (⟨#[102, 111, 114]⟩ : ByteArray) = true
    · rw [if_pos h4]
      have hl := isW_lt h4
      have e1 := nam_k E (rd E p)
      have e3 := exq_k E (nam E (rd E p)).2 (⟨#[61]⟩ : ByteArray)
      refine (h.ex 1 _ (by omega) (by omega) (by omega)).bind _ (fun x hx => ?_)
      have e4 := exq_k E x.2 (⟨#[116, 111]⟩ : ByteArray)
      refine (h.ex 1 _ (by omega) (by omega) (by omega)).bind _ (fun y hy => ?_)
      exact (h.blk y.2 (by omega)).map _ (fun b hb => by show p.k + 1 ≤ b.2.k; omega)
    rw [if_neg h4] at hsk ⊢
    by_cases h5 : isW E p (⟨#[114, 101, 116, 117, 114, 110]⟩ : ByteArray) = true
    · rw [if_pos h5]
      have hl := isW_lt h5
      refine Go.map (k := p.k + 1) ?_ _ (fun x hx => Nat.le_trans hx (exq_k E _ _))
      split
      · exact (h.ex 1 (rd E p) (by omega) (by omega) (by omega)).mono (by omega)
      · exact Go.some (by show p.k + 1 ≤ (rd E p).k; omega)
    rw [if_neg h5] at hsk ⊢
    by_cases h6 : isW E p (⟨#[97, 115, 115, 101, 114, 116]⟩ : ByteArray) = true
    · rw [if_pos h6]
      have hl := isW_lt h6
      exact (h.ex 1 (rd E p) (by omega) (by omega) (by omega)).map _ (fun x hx => Nat.le_trans (by omega) (exq_k E _ _))
    rw [if_neg h6] at hsk ⊢
    by_cases h7 : (decide (knd E p = 0) && behindW E p (⟨#[40]⟩ : ByteArray)) = true
    · rw [if_pos h7]
      have h0 : knd E p = 0 := by simp only [Bool.and_eq_true, decide_eq_true_eq] at h7; exact h7.1
      have hl := knd_lt (E := E) (p := p) (by rw [h0]; decide)
      exact (args_go h (p := rd E p) (by rw [hr]; omega)).map _ (fun y hy => Nat.le_trans (by omega) (exq_k E _ _))
    rw [if_neg h7] at hsk ⊢
    by_cases h8 : knd E p = 0
    · rw [if_pos h8]
      have hl := knd_lt (E := E) (p := p) (by rw [h8]; decide)
      refine (place_go h h8 (by omega)).bind _ (fun x hx => ?_)
      have e1 := exq_k E x.2 (⟨#[61]⟩ : ByteArray)
      exact (h.ex 1 _ (by omega) (by omega) (by omega)).map _ (fun y hy => Nat.le_trans (by omega) (exq_k E _ _))
    · rw [if_neg h8] at hsk
      exact absurd rfl hsk
  exact ⟨key.mono (by omega), fun _ => key⟩
theorem RG.stp (h : RG E n R) : RG E (n + 1) (stp E R) := ⟨fun lvl p a b c => exS_go h lvl p a b c, fun p a => blkS_go h p a, fun p a b => brS_go h p a b, fun p a => stmS_go h p a⟩
end
theorem rg_it (E : Env) : ∀ n, RG E n (it E n)
  | 0 => ⟨fun lvl p _ h7 hn => by omega, fun p hn => by omega, fun p _ hn => by omega, fun p hn => by omega⟩
  | n + 1 => (rg_it E n).stp
theorem rec_go (E : Env) (p : St) : Go (rec_ E p) (p.k + 1) := by
  have hr := rd_k E p
  have e1 := nam_k E (rd E p)
  have e2 := exq_k E (nam E (rd E p)).2 (⟨#[123]⟩ : ByteArray)
  have e3 := fld_k E (exq E (nam E (rd E p)).2 (⟨#[123]⟩ : ByteArray))
  unfold rec_
  dsimp only
  exact (more_go (E := E) (k := 0) (fun q _ => Go.some (fld_k E q)) (fuel E) _ _ (Nat.zero_le _) (by unfold fuel; omega)).map _ (fun y hy => Nat.le_trans (by omega) (exq_k E _ _))
theorem pars_go (E : Env) (p : St) : Go (pars E p) p.k := by
  have e1 := exq_k E p (⟨#[40]⟩ : ByteArray)
  unfold pars
  dsimp only
  split
  · exact Go.some (Nat.le_trans e1 (exq_k E _ _))
  · have e2 := par_k E (exq E p (⟨#[40]⟩ : ByteArray))
    exact (more_go (E := E) (k := 0) (fun q _ => Go.some (par_k E q)) (fuel E) _ _ (Nat.zero_le _) (by unfold fuel; omega)).map _ (fun y hy => Nat.le_trans (by omega) (exq_k E _ _))
theorem prc_go {E : Env} {n : Nat} {R : Rec} (h : RG E n R) (p : St) (hn : 12 * (E.T.length - (p.k + 1)) + 1 ≤ n) : Go (prc E R p) (p.k + 1) := by
  have hr := rd_k E p
  have e1 := nam_k E (rd E p)
  unfold prc
  dsimp only
  refine (pars_go E (nam E (rd E p)).2).bind _ (fun x hx => ?_)
  have e2 := opt_k E x.2
  exact (h.blk _ (by omega)).map _ (fun b hb => by show p.k + 1 ≤ b.2.k; omega)
theorem skipD_go {E : Env} : ∀ (f : Nat) (p : St), E.T.length - p.k < f → ∃ q, skipD E f p = some q ∧ p.k ≤ q.k ∧ ((knd E p != 5 && !isW E p (⟨#[114, 101, 99, 111, 114, 100]⟩ : ByteArray) && !isW E p (⟨#[112, 114, 111, 99]⟩ : ByteArray)) = true → p.k < q.k)
  | 0, _, h => by omega
  | f + 1, p, hf => by
    unfold skipD
    cases hc : (knd E p != 5 && !isW E p (⟨#[114, 101, 99, 111, 114, 100]⟩ : ByteArray) && !isW E p (⟨#[112, 114, 111, 99]⟩ : ByteArray)) with
    | false => exact ⟨p, by simp, Nat.le_refl _, fun h => by cases h⟩
    | true =>
      have hl : p.k < E.T.length := knd_lt (fun e => by rw [e] at hc; simp at hc)
      have hr := rd_k E p
      obtain ⟨q, h1, h2, _⟩ := skipD_go (E := E) f (rd E p) (by omega)
      exact ⟨q, by simp; exact h1, by omega, fun _ => by omega⟩
theorem decl_go {E : Env} {n : Nat} {R : Rec} (h : RG E n R) (p : St) (h5 : knd E p ≠ 5) (hn : 12 * (E.T.length - (p.k + 1)) + 1 ≤ n) : Go (decl E R p) (p.k + 1) := by
  unfold decl
  by_cases h1 : isW E p (⟨#[114, 101, 99, 111, 114, 100]⟩ : ByteArray) = true
  · rw [if_pos h1]; exact rec_go E p
  rw [if_neg h1]
  by_cases h2 : isW E p (⟨#[112, 114, 111, 99]⟩ : ByteArray) = true
  · rw [if_pos h2]; exact prc_go h p hn
  rw [if_neg h2]
  have hr := rep_k E p 7 (⟨#[]⟩ : ByteArray)
  obtain ⟨q, e, a, b⟩ := skipD_go (E := E) (fuel E) (rep E p 7 (⟨#[]⟩ : ByteArray)) (by unfold fuel; omega)
  rw [e]
  refine ⟨_, _, rfl, ?_⟩
  have e2 : knd E (rep E p 7 (⟨#[]⟩ : ByteArray)) = knd E p := by unfold knd; rw [hr]
  have e3 : ∀ x, isW E (rep E p 7 (⟨#[]⟩ : ByteArray)) x = isW E p x := fun x => by unfold isW knd; rw [hr]
  have := b (by rw [e2, e3, e3]; simp [h5, h1, h2])
  show p.k + 1 ≤ q.k
  omega
theorem declL_go {E : Env} {n : Nat} {R : Rec} (h : RG E n R) (hn : 12 * E.T.length + 1 ≤ n) : ∀ (f : Nat) (ks : List NT) (p : St), E.T.length - p.k < f → GoL (declL E R f ks p) p.k
  | 0, _, _, hf => by omega
  | f + 1, ks, p, hf => by
    unfold declL
    by_cases h5 : knd E p = 5
    · rw [if_pos h5]; exact ⟨_, _, rfl, Nat.le_refl _⟩
    · rw [if_neg h5]
      have hl := knd_lt h5
      refine Go.bindL (decl_go h p h5 (by omega)) _ (fun x hx => ?_)
      obtain ⟨m, q, h1, h2⟩ := declL_go h hn f (ks ++ [x.1]) x.2 (by omega)
      exact ⟨m, q, h1, by omega⟩
/-- the recursions suffice -/
theorem rg_deep (E : Env) : RG E (deep E) (it E (deep E)) := rg_it E (deep E)
theorem declL_some (E : Env) : ∃ ks q, declL E (it E (deep E)) (fuel E) [] st0 = some (ks, q) := by
  obtain ⟨m, q, h1, _⟩ := declL_go (rg_deep E) (by unfold deep; omega) (fuel E) [] st0 (by unfold fuel; omega)
  exact ⟨m, q, h1⟩
theorem ex_some (E : Env) : ∃ m q, (it E (deep E)).ex 1 st0 = some (m, q) := by
  obtain ⟨m, q, h1, _⟩ := (rg_deep E).ex 1 st0 (by omega) (by omega) (by unfold deep; omega)
  exact ⟨m, q, h1⟩
theorem stm_some (E : Env) : ∃ m q, (it E (deep E)).stm st0 = some (m, q) := by
  obtain ⟨m, q, h1, _⟩ := ((rg_deep E).stm st0 (by unfold deep; omega)).1
  exact ⟨m, q, h1⟩
end Go.Proofs.YtnpcfmoiiecadaaDoor.Par
