/- What is proved: the search reaches each vertex by the first one of the shortest ways; so a chain is the first one of the shortest: plain mathematics. -/
import Derived.Test.YtmamajillkajoaaDoorCoAlone
import Derived.Test.YtmamajillkajoaaDoorCoDist
set_option linter.unusedVariables false
namespace Go.Proofs.YtmamajillkajoaaDoor
open Go.RowKit

/-- of two lists of one length: the first difference decides -/
def ltx : List Nat → List Nat → Bool
  | a :: s, b :: t => if a = b then ltx s t else decide (a < b)
  | _, _ => false
theorem ltx_irr : ∀ a : List Nat, ltx a a = false
  | [] => rfl
  | x :: xs => by rw [ltx, if_pos rfl]; exact ltx_irr xs
theorem ltx_trans : ∀ {a b c : List Nat}, ltx a b = true → ltx b c = true → ltx a c = true
  | [], _, _, h, _ => by simp [ltx] at h
  | _ :: _, [], _, h, _ => by simp [ltx] at h
  | _ :: _, _ :: _, [], _, h => by simp [ltx] at h
  | x :: xs, y :: ys, z :: zs, h, g => by
    rw [ltx] at h g ⊢
    by_cases e1 : x = y
    · subst e1
      rw [if_pos rfl] at h
      by_cases e2 : x = z
      · subst e2
        rw [if_pos rfl] at g ⊢
        exact ltx_trans h g
      · rw [if_neg e2] at g ⊢
        exact g
    · rw [if_neg e1] at h
      have h' : x < y := by simpa using h
      by_cases e2 : y = z
      · subst e2
        rw [if_neg e1]
        exact h
      · rw [if_neg e2] at g
        have g' : y < z := by simpa using g
        rw [if_neg (by omega)]
        simpa using (show x < z by omega)
theorem ltx_append : ∀ {a b : List Nat} (c d : List Nat), ltx a b = true → ltx (a ++ c) (b ++ d) = true
  | [], _, _, _, h => by simp [ltx] at h
  | _ :: _, [], _, _, h => by simp [ltx] at h
  | x :: xs, y :: ys, c, d, h => by
    rw [ltx] at h
    rw [List.cons_append, List.cons_append, ltx]
    by_cases e : x = y
    · rw [if_pos e] at h ⊢
      exact ltx_append c d h
    · rw [if_neg e] at h ⊢
      exact h
theorem ltx_snoc : ∀ (a : List Nat) {x y : Nat} (c d : List Nat), x < y → ltx (a ++ x :: c) (a ++ y :: d) = true
  | [], x, y, c, d, h => by
    rw [List.nil_append, List.nil_append, ltx, if_neg (by omega)]
    simpa using h
  | z :: zs, x, y, c, d, h => by
    rw [List.cons_append, List.cons_append, ltx, if_pos rfl]
    exact ltx_snoc zs c d h
theorem ltx_total : ∀ {a b : List Nat}, a.length = b.length → ltx a b = true ∨ a = b ∨ ltx b a = true
  | [], [], _ => .inr (.inl rfl)
  | [], _ :: _, h => by simp at h
  | _ :: _, [], h => by simp at h
  | x :: xs, y :: ys, h => by
    rw [ltx, ltx]
    by_cases e : x = y
    · subst e
      rw [if_pos rfl, if_pos rfl]
      rcases ltx_total (a := xs) (b := ys) (by simpa using h) with h1 | h1 | h1
      · exact .inl h1
      · exact .inr (.inl (by rw [h1]))
      · exact .inr (.inr h1)
    · rw [if_neg e, if_neg (fun h => e h.symm)]
      rcases Nat.lt_or_gt_of_ne e with h1 | h1
      · exact .inl (by simpa using h1)
      · exact .inr (.inr (by simpa using h1))
/-- shorter, or as long and before -/
def ltL (a b : List Nat) : Prop := a.length < b.length ∨ a.length = b.length ∧ ltx a b = true
def leL (a b : List Nat) : Prop := a.length < b.length ∨ a.length = b.length ∧ (a = b ∨ ltx a b = true)
theorem ltL.le {a b : List Nat} (h : ltL a b) : leL a b := h.imp id (fun h => ⟨h.1, .inr h.2⟩)
theorem leL.refl (a : List Nat) : leL a a := .inr ⟨rfl, .inl rfl⟩
theorem ltL.trans_le {a b c : List Nat} (h : ltL a b) (g : leL b c) : ltL a c := by
  rcases h with h | ⟨h1, h2⟩ <;> rcases g with g | ⟨g1, g2⟩
  · exact .inl (by omega)
  · exact .inl (by omega)
  · exact .inl (by omega)
  · refine .inr ⟨by omega, ?_⟩
    rcases g2 with rfl | g2
    · exact h2
    · exact ltx_trans h2 g2
theorem leL.trans {a b c : List Nat} (h : leL a b) (g : leL b c) : leL a c := by
  rcases h with h | ⟨h1, h2⟩
  · exact (ltL.trans_le (.inl h) g).le
  · rcases h2 with rfl | h2
    · exact g
    · exact (ltL.trans_le (.inr ⟨h1, h2⟩) g).le
theorem leL.anti {a b : List Nat} (h : leL a b) (g : leL b a) : a = b := by
  rcases h with h | ⟨h1, h2⟩
  · rcases g with g | ⟨g, _⟩ <;> omega
  · rcases h2 with h2 | h2
    · exact h2
    · rcases g with g | ⟨_, g2⟩
      · omega
      · rcases g2 with g2 | g2
        · exact g2.symm
        · have := ltx_trans h2 g2
          rw [ltx_irr] at this
          cases this
theorem ltL.snoc {a b : List Nat} (h : ltL a b) (x y : Nat) : ltL (a ++ [x]) (b ++ [y]) := by
  rcases h with h | ⟨h1, h2⟩
  · exact .inl (by simp; omega)
  · exact .inr ⟨by simp [h1], ltx_append _ _ h2⟩
theorem leL.snoc {a b : List Nat} (h : leL a b) {x y : Nat} (hxy : x ≤ y) : leL (a ++ [x]) (b ++ [y]) := by
  rcases h with h | ⟨h1, h2⟩
  · exact .inl (by simp; omega)
  · rcases h2 with rfl | h2
    · rcases Nat.lt_or_ge x y with h | h
      · exact .inr ⟨by simp, .inr (ltx_snoc a [] [] h)⟩
      · obtain rfl : x = y := by omega
        exact leL.refl _
    · exact .inr ⟨by simp [h1], .inr (ltx_append _ _ h2)⟩
theorem leL.cons {a b : List Nat} (h : leL a b) {x y : Nat} (hxy : x ≤ y) : leL (x :: a) (y :: b) := by
  rcases h with h | ⟨h1, h2⟩
  · exact .inl (by simp; omega)
  · rcases Nat.lt_or_ge x y with h | h
    · refine .inr ⟨by simp [h1], .inr ?_⟩
      rw [ltx, if_neg (by omega)]
      simpa using h
    · obtain rfl : x = y := by omega
      refine .inr ⟨by simp [h1], ?_⟩
      rcases h2 with rfl | h2
      · exact .inl rfl
      · right; rw [ltx, if_pos rfl]; exact h2

/-- the equalities of a vertex stand in order -/
theorem eqs_sorted (l : List Con) (v : Nat) : ∀ k, (eqs l v k).Pairwise (· ≤ ·)
  | 0 => List.Pairwise.nil
  | k + 1 => by
    rw [eqs, List.pairwise_append]
    have hin : ∀ b ∈ (match l[k]? with | some c => if dupB l k c then [] else if c.kind == 0 then [] else (if c.a == (v : Int) then [k] else []) ++ (if c.b == (v : Int) then [k] else []) | none => []), b = k := fun b hb => by
      split at hb
      · split at hb
        · simp at hb
        · split at hb
          · simp at hb
          · rcases List.mem_append.1 hb with hb | hb <;> split at hb <;> simp at hb <;> exact hb
      · simp at hb
    refine ⟨eqs_sorted l v k, ?_, fun a ha b hb => ?_⟩
    · refine List.pairwise_of_forall_mem_list (fun a ha b hb => ?_)
      rw [hin a ha, hin b hb]
      exact Nat.le_refl _
    · rw [hin b hb]
      have := (eqs_mem ha).1
      omega
theorem mrk_sorted (l : List Con) (v : Nat) : ∀ k, (mrk l v k).Pairwise (· < ·)
  | 0 => List.Pairwise.nil
  | k + 1 => by
    rw [mrk, List.pairwise_append]
    have hin : ∀ b ∈ (match l[k]? with | some c => if dupB l k c then [] else if c.kind == 0 && c.a == (v : Int) then [k] else [] | none => []), b = k := fun b hb => by
      split at hb
      · split at hb
        · simp at hb
        · split at hb
          · simpa using hb
          · simp at hb
      · simp at hb
    refine ⟨mrk_sorted l v k, ?_, fun a ha b hb => ?_⟩
    · split
      · split
        · exact List.Pairwise.nil
        · split
          · simp
          · exact List.Pairwise.nil
      · exact List.Pairwise.nil
    · rw [hin b hb]
      exact (mrk_mem ha).1
theorem find_first {p : Nat → Bool} : ∀ {xs : List Nat} {q : Nat}, xs.Pairwise (· < ·) → xs.find? p = some q → ∀ j ∈ xs, p j = true → q ≤ j
  | [], q, _, h, _, _, _ => by simp at h
  | x :: xs, q, hs, h, j, hj, hpj => by
    rw [List.find?_cons] at h
    obtain ⟨h1, h2⟩ := List.pairwise_cons.1 hs
    cases hx : p x with
    | true =>
      rw [hx] at h
      obtain rfl : x = q := by simpa using h
      rcases List.mem_cons.1 hj with rfl | hj
      · exact Nat.le_refl _
      · have := h1 j hj; omega
    | false =>
      rw [hx] at h
      rcases List.mem_cons.1 hj with rfl | hj
      · rw [hx] at hpj; cases hpj
      · exact find_first h2 h j hj hpj

/-- the order of visits: by the visit from which they came, and by their equality -/
structure BL (l : List Con) (i : Nat) (vs : List Vis) : Prop where
  fro : ∀ (j k : Nat) (x y : Vis), j < k → vs[j]? = some x → vs[k]? = some y → x.fr < y.fr ∨ x.fr = y.fr ∧ x.by_ < y.by_
  clo : ∀ (j : Nat) (x : Vis) (e : Nat), j < i → vs[j]? = some x → e ∈ eqs l x.v l.length → ∃ (k : Nat) (y : Vis), vs[k]? = some y ∧ y.v = oth l e x.v ∧ (y.fr < (j : Int) ∨ y.fr = (j : Int) ∧ y.by_ ≤ (e : Int))
  lo : ∀ (k : Nat) (y : Vis), vs[k]? = some y → y.fr < (i : Int)
theorem BL.one (l : List Con) (s : Nat) : BL l 0 [⟨s, -1, -1, 0⟩] := by
  have one : ∀ (j : Nat) (x : Vis), ([⟨s, -1, -1, 0⟩] : List Vis)[j]? = some x → j = 0 ∧ x = ⟨s, -1, -1, 0⟩ := fun j x h => by
    cases j with
    | zero => simp at h; exact ⟨rfl, h.symm⟩
    | succ j => simp at h
  refine ⟨fun j k x y hjk h1 h2 => ?_, fun j x e hj => by omega, fun k y h => ?_⟩
  · have := (one j x h1).1
    have := (one k y h2).1
    omega
  · rw [(one k y h).2]; show (-1 : Int) < _; omega
/-- visits while a visit's neighbours are added -/
structure EL (l : List Con) (i : Nat) (x : Vis) (vs : List Vis) (es : List Nat) : Prop where
  fro : ∀ (j k : Nat) (x y : Vis), j < k → vs[j]? = some x → vs[k]? = some y → x.fr < y.fr ∨ x.fr = y.fr ∧ x.by_ < y.by_
  clo : ∀ (j : Nat) (x : Vis) (e : Nat), j < i → vs[j]? = some x → e ∈ eqs l x.v l.length → ∃ (k : Nat) (y : Vis), vs[k]? = some y ∧ y.v = oth l e x.v ∧ (y.fr < (j : Int) ∨ y.fr = (j : Int) ∧ y.by_ ≤ (e : Int))
  lo : ∀ (k : Nat) (y : Vis), vs[k]? = some y → y.fr < (i : Int) ∨ y.fr = (i : Int) ∧ (∀ e ∈ es, y.by_ ≤ (e : Int)) ∧ ∃ e : Nat, y.by_ = (e : Int) ∧ y.v = oth l e x.v
theorem EL.expand {l : List Con} {i : Nat} {x : Vis} : ∀ {es : List Nat} {vs : List Vis}, EL l i x vs es → i < vs.length → es.Pairwise (· ≤ ·) →
    EL l i x (expand l i x es vs) [] ∧ (∀ e ∈ es, ∃ (k : Nat) (y : Vis), (expand l i x es vs)[k]? = some y ∧ y.v = oth l e x.v ∧ (y.fr < (i : Int) ∨ y.fr = (i : Int) ∧ y.by_ ≤ (e : Int))) ∧ (∀ (k : Nat) (y : Vis), vs[k]? = some y → (expand l i x es vs)[k]? = some y)
  | [], vs, h, _, _ => ⟨h, fun e he => by simp at he, fun k y hy => hy⟩
  | e :: es, vs, h, hil, hs => by
    obtain ⟨hs1, hs2⟩ := List.pairwise_cons.1 hs
    rw [Proofs.YtmamajillkajoaaDoor.expand]
    cases hin : inV vs (oth l e x.v) with
    | true =>
      rw [if_pos rfl]
      have hE : EL l i x vs es := ⟨h.fro, h.clo, fun k y hy => (h.lo k y hy).imp id (fun ⟨h1, h2, h3⟩ => ⟨h1, fun e' he' => h2 e' (List.mem_cons_of_mem _ he'), h3⟩)⟩
      obtain ⟨h1, h2, h3⟩ := EL.expand hE hil hs2
      refine ⟨h1, fun e' he' => ?_, h3⟩
      rcases List.mem_cons.1 he' with rfl | he'
      · obtain ⟨k, y, k1, k2⟩ := inV_get.1 hin
        refine ⟨k, y, h3 k y k1, k2, ?_⟩
        rcases h.lo k y k1 with g | ⟨g1, g2, _⟩
        · exact .inl g
        · exact .inr ⟨g1, g2 _ (List.mem_cons_self ..)⟩
      · exact h2 e' he'
    | false =>
      rw [if_neg (by decide)]
      have hnew : ∀ (k : Nat) (y : Vis), vs[k]? = some y → y.fr < (i : Int) ∨ y.fr = (i : Int) ∧ y.by_ < (e : Int) := fun k y hy => by
        rcases h.lo k y hy with g | ⟨g1, g2, e', g3, g4⟩
        · exact .inl g
        · refine .inr ⟨g1, ?_⟩
          have h1 := g2 e (List.mem_cons_self ..)
          rcases Int.lt_or_le y.by_ (e : Int) with h2 | h2
          · exact h2
          · exfalso
            have : e' = e := by omega
            subst this
            have : inV vs (oth l e' x.v) = true := inV_get.2 ⟨k, y, hy, g4⟩
            rw [hin] at this
            cases this
      have hE : EL l i x (vs ++ [⟨oth l e x.v, i, e, x.st + 1⟩]) es := by
        refine ⟨fun j k a b hjk ha hb => ?_, fun j a e' hj ha he' => ?_, fun k y hy => ?_⟩
        · rcases getElem?_snoc hb with hb | ⟨rfl, rfl⟩
          · rcases getElem?_snoc ha with ha | ⟨rfl, rfl⟩
            · exact h.fro j k a b hjk ha hb
            · have := (List.getElem?_eq_some_iff.1 hb).1; omega
          · rcases getElem?_snoc ha with ha | ⟨rfl, rfl⟩
            · exact hnew j a ha
            · omega
        · rcases getElem?_snoc ha with ha | ⟨rfl, rfl⟩
          · obtain ⟨k, y, h1, h2⟩ := h.clo j a e' hj ha he'
            exact ⟨k, y, get_snoc_old h1, h2⟩
          · omega
        · rcases getElem?_snoc hy with hy | ⟨rfl, rfl⟩
          · exact (h.lo k y hy).imp id (fun ⟨h1, h2, h3⟩ => ⟨h1, fun e' he' => h2 e' (List.mem_cons_of_mem _ he'), h3⟩)
          · exact .inr ⟨rfl, fun e' he' => by have := hs1 e' he'; show (e : Int) ≤ _; omega, e, rfl, rfl⟩
      obtain ⟨h1, h2, h3⟩ := EL.expand hE (by simp; omega) hs2
      refine ⟨h1, fun e' he' => ?_, fun k y hy => h3 k y (get_snoc_old hy)⟩
      rcases List.mem_cons.1 he' with rfl | he'
      · exact ⟨vs.length, _, h3 _ _ get_snoc_new, rfl, .inr ⟨rfl, Int.le_refl _⟩⟩
      · exact h2 e' he'
theorem BL.next {l : List Con} {i : Nat} {x : Vis} {vs : List Vis} (h : BL l i vs) (hx : vs[i]? = some x) : BL l (i + 1) (expand l i x (eqs l x.v l.length) vs) := by
  have hil := (List.getElem?_eq_some_iff.1 hx).1
  obtain ⟨h1, h2, h3⟩ := EL.expand (l := l) (x := x) (es := eqs l x.v l.length) ⟨h.fro, h.clo, fun k y hy => .inl (h.lo k y hy)⟩ hil (eqs_sorted l x.v _)
  refine ⟨h1.fro, fun j y e hj hy he => ?_, fun k y hy => ?_⟩
  · rcases Nat.lt_or_ge j i with hj' | hj'
    · exact h1.clo j y e hj' hy he
    · obtain rfl : j = i := by omega
      rw [h3 j x hx] at hy
      obtain rfl : x = y := by simpa using hy
      exact h2 e he
  · rcases h1.lo k y hy with g | ⟨g, _⟩ <;> omega

/-- how a search ends, with the order of the visits -/
def BEnd2 (l : List Con) (n s : Nat) (p : Vis → Bool) (r : List Vis) : Prop :=
  (∃ i, BI l s i r ∧ BL l i r ∧ VP n r ∧ i = r.length ∧ ∀ x ∈ r, p x = false) ∨
  (∃ (i : Nat) (vs : List Vis) (x : Vis), BI l s i vs ∧ BL l i vs ∧ VP n vs ∧ r = vs.take (i + 1) ∧ vs[i]? = some x ∧ p x = true ∧ ∀ (j : Nat) (y : Vis), j < i → vs[j]? = some y → p y = false)
theorem bfs_end2 {l : List Con} {n s : Nat} {p : Vis → Bool} (hp : ∀ x ∈ l, posB n x = true) : ∀ {f i : Nat} {vs : List Vis}, BI l s i vs → BL l i vs → VP n vs → i ≤ vs.length → n + 1 ≤ f + i → (∀ (j : Nat) (y : Vis), j < i → vs[j]? = some y → p y = false) → BEnd2 l n s p (bfs l p f i vs).1
  | 0, i, vs, hb, hl, hv, hi, hf, _ => by
    have := nodup_len hv.2 (fun u hu => by
      obtain ⟨x, hx, rfl⟩ := List.mem_map.1 hu
      exact hv.1 x hx)
    rw [List.length_map] at this
    omega
  | f + 1, i, vs, hb, hl, hv, hi, hf, hno => by
    rw [Proofs.YtmamajillkajoaaDoor.bfs]
    cases hx : vs[i]? with
    | none =>
      have hil : vs.length ≤ i := List.getElem?_eq_none_iff.1 hx
      show BEnd2 l n s p vs
      refine .inl ⟨i, hb, hl, hv, by omega, fun x hx' => ?_⟩
      obtain ⟨j, hj, rfl⟩ := List.getElem_of_mem hx'
      exact hno j _ (by omega) (List.getElem?_eq_getElem hj)
    | some x =>
      dsimp only
      cases hpx : p x with
      | true =>
        rw [if_pos rfl]
        exact .inr ⟨i, vs, x, hb, hl, hv, rfl, hx, hpx, hno⟩
      | false =>
        rw [if_neg (by decide)]
        obtain ⟨h1, h2, h3⟩ := hb.next hx
        refine bfs_end2 hp h1 (hl.next hx) (hv.expand fun e he => oth_lt hp (hv.1 x (List.mem_of_getElem? hx)) he) h2 (by omega) (fun j y hj hy => ?_)
        rcases Nat.lt_or_ge j i with hj' | hj'
        · have hjl : j < vs.length := by have := (List.getElem?_eq_some_iff.1 hx).1; omega
          have h4 := h3 j _ (List.getElem?_eq_getElem hjl)
          rw [h4] at hy
          obtain rfl : vs[j] = y := by simpa using hy
          exact hno j _ hj' (List.getElem?_eq_getElem hjl)
        · obtain rfl : j = i := by omega
          rw [h3 j x hx] at hy
          obtain rfl : x = y := by simpa using hy
          exact hpx
theorem srch_end2 {l : List Con} {n s : Nat} {p : Vis → Bool} (hp : ∀ x ∈ l, posB n x = true) (hs : s < n) : BEnd2 l n s p (srch l n s p) :=
  bfs_end2 hp (BI.one l s) (BL.one l s) (VP.one hs _ _ _) (Nat.zero_le _) (by omega) (fun j y hj => by omega)

/-- the way to a visit -/
def pa (vs : List Vis) (j : Nat) : List Nat := (way vs (j + 1) j).reverse
theorem wp_fuel {r : List Vis} (h : WP r) : ∀ (j f g : Nat), j < f → j < g → way r f j = way r g j := by
  intro j
  induction j using Nat.strongRecOn with
  | ind j ih =>
    intro f g hf hg
    cases f with
    | zero => omega
    | succ f =>
      cases g with
      | zero => omega
      | succ g =>
        rw [way, way]
        cases hx : r[j]? with
        | none => rfl
        | some x =>
          dsimp only
          split
          · rfl
          · rename_i hfr
            obtain ⟨h0, h1⟩ := h j x hx
            rcases Nat.eq_zero_or_pos j with hz | hz
            · rw [(h0 hz).1] at hfr; exact absurd (by decide) hfr
            · obtain ⟨p, y, e1, e2, e3, _⟩ := h1 hz
              rw [e1, Int.toNat_natCast, ih p e2 f g (by omega) (by omega)]
theorem pa_root {vs : List Vis} (h : WP vs) : pa vs 0 = [] := by
  unfold pa
  rw [way]
  cases hx : vs[0]? with
  | none => rfl
  | some x =>
    dsimp only
    rw [((h 0 x hx).1 rfl).1, if_pos (by decide)]
    rfl
theorem pa_step {vs : List Vis} (h : WP vs) {j p e : Nat} {x : Vis} (hx : vs[j]? = some x) (hp : x.fr = (p : Int)) (he : x.by_ = (e : Int)) (hlt : p < j) : pa vs j = pa vs p ++ [e] := by
  unfold pa
  rw [way, hx]
  dsimp only
  rw [hp, if_neg (by omega), he, Int.toNat_natCast, Int.toNat_natCast, List.reverse_cons, wp_fuel h p j (p + 1) hlt (by omega)]
theorem pa_len {vs : List Vis} (h : WP vs) {j : Nat} {x : Vis} (hx : vs[j]? = some x) : (pa vs j).length = x.st := by
  unfold pa
  rw [List.length_reverse]
  exact way_len h (j + 1) j x (by omega) hx
theorem way_take {vs : List Vis} (h : WP vs) (k : Nat) : ∀ (f j : Nat), j < k → way (vs.take k) f j = way vs f j
  | 0, _, _ => rfl
  | f + 1, j, hj => by
    rw [way, way, List.getElem?_take, if_pos hj]
    cases hx : vs[j]? with
    | none => rfl
    | some x =>
      dsimp only
      split
      · rfl
      · rename_i hfr
        obtain ⟨h0, h1⟩ := h j x hx
        rcases Nat.eq_zero_or_pos j with hz | hz
        · rw [(h0 hz).1] at hfr; exact absurd (by decide) hfr
        · obtain ⟨p, y, e1, e2, e3, _⟩ := h1 hz
          rw [e1, Int.toNat_natCast, way_take h k f p (by omega)]
theorem BI.wp' {l : List Con} {s i : Nat} {vs : List Vis} (h : BI l s i vs) : WP vs := by
  have := h.wp vs.length
  rwa [List.take_length] at this
/-- earlier visits have earlier ways -/
theorem pa_order {l : List Con} {s i : Nat} {vs : List Vis} (hb : BI l s i vs) (hl : BL l i vs) : ∀ (k j : Nat), j < k → k < vs.length → ltL (pa vs j) (pa vs k) := by
  intro k
  induction k using Nat.strongRecOn with
  | ind k ih =>
    intro j hjk hk
    have hw := hb.wp'
    have hy : vs[k]? = some vs[k] := List.getElem?_eq_getElem hk
    have hx : vs[j]? = some vs[j] := List.getElem?_eq_getElem (by omega)
    obtain ⟨p, e, y', p1, p2, p3, p4, _⟩ := hb.par k _ hy (by omega)
    have hkp := pa_step hw hy p1 p4 p2
    rcases Nat.eq_zero_or_pos j with h0 | h0
    · subst h0
      rw [pa_root hw, hkp]
      exact .inl (by simp)
    · obtain ⟨p', e', y'', q1, q2, q3, q4, _⟩ := hb.par j _ hx h0
      rw [pa_step hw hx q1 q4 q2, hkp]
      rcases hl.fro j k _ _ hjk hx hy with h1 | ⟨h1, h2⟩
      · exact (ih p p2 p' (by omega) (by omega)).snoc _ _
      · obtain rfl : p' = p := by omega
        exact .inr ⟨by simp, ltx_snoc _ [] [] (by omega)⟩

/-- a way by equalities that say something new -/
def WD (l : List Con) : Nat → List Nat → Nat → Prop
  | a, [], b => a = b
  | a, i :: is, b => i ∈ eqs l a l.length ∧ WD l (oth l i a) is b
theorem WD.snoc {l : List Con} : ∀ {is : List Nat} {a b e : Nat}, WD l a (is ++ [e]) b → ∃ w, WD l a is w ∧ e ∈ eqs l w l.length ∧ oth l e w = b
  | [], a, b, e, h => ⟨a, rfl, h.1, h.2⟩
  | i :: is, a, b, e, h => by
    obtain ⟨w, h1, h2⟩ := WD.snoc (is := is) h.2
    exact ⟨w, ⟨h.1, h1⟩, h2⟩
theorem wlk_wd {l : List Con} {n : Nat} (hp : ∀ x ∈ l, posB n x = true) : ∀ (es : List Nat) (a : Nat) (b : Int), wlk l (a : Int) es = some b → ∃ (b' : Nat) (es' : List Nat), b = (b' : Int) ∧ WD l a es' b' ∧ es'.length = es.length ∧ leL es' es
  | [], a, b, h => by
    have : (a : Int) = b := by simpa [wlk] using h
    exact ⟨a, [], this.symm, rfl, rfl, leL.refl _⟩
  | i :: is, a, b, h => by
    obtain ⟨c, h1, h2, h3⟩ := wlk_step h
    obtain ⟨j, d, hji, hd, hdup, hf⟩ := first_says l i c h1
    have hpc := hp c (List.mem_of_getElem? h1)
    have hpd := hp d (List.mem_of_getElem? hd)
    have hk : (c.kind == 0) = false := by rw [h2]; rfl
    have hkd := fact_kind hpc hpd hf
    rw [hk] at hkd
    have hjl : j < l.length := (List.getElem?_eq_some_iff.1 hd).1
    have hcases := fact_equal hpc hpd hf hk
    have hbd := pos_cases hpc
    have hbb : 0 ≤ c.b := by rcases hbd.2 with ⟨k0, _⟩ | ⟨_, k1, _⟩ <;> omega
    have hj : j ∈ eqs l a l.length := eqs_in hd hdup hkd (by rcases hcases with g | g <;> rcases h3 with ⟨e1, _⟩ | ⟨_, e1, _⟩ <;> omega) l.length hjl
    have hnx : ∃ u : Nat, oth l j a = u ∧ wlk l (u : Int) is = some b := by
      unfold oth
      rw [hd]
      dsimp only
      rcases h3 with ⟨e1, e2⟩ | ⟨_, e1, e2⟩
      · refine ⟨c.b.toNat, by rcases hcases with g | g <;> omega, ?_⟩
        rw [show ((c.b.toNat : Nat) : Int) = c.b by omega]
        exact e2
      · refine ⟨c.a.toNat, by rcases hcases with g | g <;> omega, ?_⟩
        rw [show ((c.a.toNat : Nat) : Int) = c.a by omega]
        exact e2
    obtain ⟨u, hu1, hu2⟩ := hnx
    obtain ⟨b', es', g1, g2, g3, g4⟩ := wlk_wd hp is u b hu2
    exact ⟨b', j :: es', g1, ⟨hj, by rw [hu1]; exact g2⟩, by simp [g3], g4.cons hji⟩
/-- each vertex that is near is visited, by a way that is not later -/
theorem visit_first {l : List Con} {n s i : Nat} {vs : List Vis} (hp : ∀ x ∈ l, posB n x = true) (hb : BI l s i vs) (hl : BL l i vs) : ∀ (d : Nat) (es : List Nat) (v : Nat), es.length = d → WD l s es v → (∀ x, vs[i]? = some x → d ≤ x.st) → (∃ x, vs[i]? = some x) ∨ vs.length ≤ i → ∃ (j : Nat) (y : Vis), vs[j]? = some y ∧ y.v = v ∧ leL (pa vs j) es := by
  have hw := hb.wp'
  intro d
  induction d with
  | zero =>
    intro es v hd hW _ _
    obtain rfl : es = [] := List.eq_nil_of_length_eq_zero hd
    obtain ⟨x0, f1, f2, f3, _⟩ := hb.first
    have hW' : s = v := hW
    exact ⟨0, x0, f1, by rw [f2, hW'], by rw [pa_root hw]; exact leL.refl _⟩
  | succ d ih =>
    intro es v hd hW hle hor
    obtain ⟨es0, e, rfl⟩ : ∃ es0 e, es = es0 ++ [e] := by
      rcases List.eq_nil_or_concat es with h | ⟨es0, e, h⟩
      · rw [h] at hd; simp at hd
      · exact ⟨es0, e, by rw [h]; simp⟩
    have hd0 : es0.length = d := by simpa using hd
    obtain ⟨w, hW0, he, ho⟩ := hW.snoc
    obtain ⟨j, y, hy, hyv, hyl⟩ := ih es0 w hd0 hW0 (fun x hx => by have := hle x hx; omega) hor
    have hst : y.st ≤ d := by
      have := pa_len hw hy
      rcases hyl with h | ⟨h, _⟩ <;> omega
    have hji : j < i := by
      rcases hor with ⟨x, hx⟩ | hor
      · rcases Nat.lt_or_ge j i with hj | hj
        · exact hj
        · have := hb.mono i j x y hj hx hy
          have := hle x hx
          omega
      · have := (List.getElem?_eq_some_iff.1 hy).1
        omega
    obtain ⟨k, z, hz, hzv, hzf⟩ := hl.clo j y e hji hy (by rw [hyv]; exact he)
    refine ⟨k, z, hz, by rw [hzv, hyv, ho], ?_⟩
    rcases Nat.eq_zero_or_pos k with h0 | h0
    · subst h0
      rw [pa_root hw]
      exact .inl (by simp)
    · obtain ⟨p, b, z', p1, p2, p3, p4, _⟩ := hb.par k z hz h0
      rw [pa_step hw hz p1 p4 p2]
      rcases hzf with g | ⟨g1, g2⟩
      · have hpj : p < j := by omega
        exact ((pa_order hb hl j p hpj (List.getElem?_eq_some_iff.1 hy).1).trans_le hyl).snoc _ _ |>.le
      · obtain rfl : p = j := by omega
        exact hyl.snoc (by omega)

/-- the first mark of a chain: no way from it is before its own -/
theorem frm_min {l : List Con} {n m lim : Nat} {c : List Nat} (hp : ∀ x ∈ l, posB n x = true) (hv : vertAt l m < n) (h : frm l n m lim = some c) {es : List Nat} {k : Nat} {ck : Con} (hk : l[k]? = some ck) (hkk : ck.kind = 0) (hle : wlk l (vertAt l m : Int) es = some ck.a) (hx : exclB (markAt l m) ck.mark = true) : leL c (m :: (es ++ [k])) := by
  obtain ⟨r, hr⟩ : ∃ r, srch l n (vertAt l m) (stp l m lim) = r := ⟨_, rfl⟩
  have hE := srch_end2 (p := stp l m lim) hp hv
  rw [hr] at hE
  rcases hE with ⟨i, hb, hl, hV, hi, hno⟩ | ⟨i, vs, x, hb, hl, hV, hrv, hxi, hpx, hno⟩
  · rw [frm_none hr hno] at h; cases h
  · have hw := hb.wp'
    have hil : i < vs.length := (List.getElem?_eq_some_iff.1 hxi).1
    have hlen : r.length = i + 1 := by rw [hrv, List.length_take]; omega
    have hri : r[i]? = some x := by rw [hrv, List.getElem?_take, if_pos (by omega)]; exact hxi
    have hlast : r.getLast? = some x := by rw [List.getLast?_eq_getElem?, hlen]; exact hri
    have hf := frm_eq hr
    rw [hlast] at hf
    dsimp only at hf
    cases hlm : lmB lim x with
    | true => rw [hlm, if_pos rfl, h] at hf; cases hf
    | false =>
      rw [hlm, if_neg (by decide)] at hf
      cases hh : hit l m x.v with
      | none => rw [hh, h] at hf; cases hf
      | some q =>
        rw [hh, h] at hf
        dsimp only at hf
        have hc : c = m :: (pa vs i ++ [q]) := by
          have := Option.some.inj hf
          rw [this, hlen, show i + 1 - 1 = i from rfl, hrv, way_take hw (i + 1) (i + 1) i (by omega)]
          simp [pa]
        rw [hc]
        have hpl := pa_len hw hxi
        rcases Nat.lt_or_ge x.st es.length with hgt | hge
        · exact .inl (by simp; omega)
        · obtain ⟨v, es', g1, g2, g3, g4⟩ := wlk_wd hp es _ _ hle
          obtain ⟨j, y, hy, hyv, hyl⟩ := visit_first hp hb hl es.length es' v g3 g2 (fun z hz => by
            rw [hxi] at hz
            obtain rfl : x = z := by simpa using hz
            exact hge) (.inl ⟨x, hxi⟩)
          have hye := hyl.trans g4
          -- the mark, said first
          obtain ⟨k', d, hkk', hd, hdup, hfk⟩ := first_says l k ck hk
          have hpc := hp ck (List.mem_of_getElem? hk)
          have hpd := hp d (List.mem_of_getElem? hd)
          have hk0 : (ck.kind == 0) = true := by rw [hkk]; rfl
          have hkd := fact_kind hpc hpd hfk
          rw [hk0] at hkd
          have hfm := fact_mark hfk hk0 hkd
          have hmk : k' ∈ mrk l y.v l.length := mrk_in hd hdup hkd (by rw [hfm.1, hyv]; exact g1) l.length (List.getElem?_eq_some_iff.1 hd).1
          have hmx : exclB (markAt l m) (markAt l k') = true := by
            unfold markAt at hx ⊢
            rw [hd]
            dsimp only
            rw [hfm.2]
            exact hx
          have hyi : i ≤ j := by
            rcases Nat.lt_or_ge j i with hj | hj
            · exfalso
              have h4 := stp_no (hno j y hj hy)
              rw [hit_none h4 hmk] at hmx
              cases hmx
            · exact hj
          refine leL.cons ?_ (Nat.le_refl m)
          rcases Nat.lt_or_ge i j with hj | hj
          · exact (((pa_order hb hl j i hj (List.getElem?_eq_some_iff.1 hy).1).trans_le hye).snoc q k).le
          · obtain rfl : i = j := by omega
            rw [hxi] at hy
            obtain rfl : x = y := by simpa using hy
            refine hye.snoc ?_
            unfold hit at hh
            have := find_first (mrk_sorted l x.v _) hh k' hmk hmx
            omega
/-- what counts as a chain of a class -/
structure TC (l : List Con) (r i k : Nat) (es : List Nat) (ci ck : Con) : Prop where
  gi : l[i]? = some ci
  gk : l[k]? = some ck
  ki : ci.kind = 0
  kk : ck.kind = 0
  conn : Conn l r ci.a.toNat
  leads : wlk l ci.a es = some ck.a
  excl : exclB ci.mark ck.mark = true
theorem chain_min {l : List Con} {n r i k : Nat} {es : List Nat} {ci ck : Con} (hp : ∀ x ∈ l, posB n x = true) (hr : r < n) (h : TC l r i k es ci ck) : leL (chain l n (cls l n r)) (i :: (es ++ [k])) := by
  have hpi := pos_cases (hp ci (List.mem_of_getElem? h.gi))
  have hpk := pos_cases (hp ck (List.mem_of_getElem? h.gk))
  obtain ⟨u, hu⟩ : ∃ u : Nat, ci.a = (u : Int) := ⟨ci.a.toNat, by omega⟩
  have hlu := h.leads
  rw [hu] at hlu
  have hcn := h.conn
  rw [hu, Int.toNat_natCast] at hcn
  obtain ⟨v, hv, hrk⟩ := wlk_rk (l2 := l) hp es u ck.a hlu (fun _ _ c hc => List.mem_of_getElem? hc)
  have hi0 : (ci.kind == 0) = true := by rw [h.ki]; rfl
  have hk0 : (ck.kind == 0) = true := by rw [h.kk]; rfl
  have hF : Far l r es.length := ⟨u, v, ci.mark, ck.mark, hcn, ⟨i, ci, h.gi, hi0, hu, rfl⟩, ⟨k, ck, h.gk, hk0, hv, rfl⟩, hrk, h.excl⟩
  obtain ⟨c1, c2⟩ := (chain_spec hp hr).2 _ hF
  rcases Nat.lt_or_ge (chain l n (cls l n r)).length (es.length + 2) with hlt | hge
  · exact .inl (by simp; omega)
  · have hok := (cls_ok hp hr).1
    have hvm : ∀ m ∈ mks l (cls l n r), vertAt l m < n := fun m hm => by
      obtain ⟨v, h1, h2⟩ := mks_iff.1 hm
      rw [vert_eq h2]
      exact hok v h1
    rcases chn_form l n (mks l (cls l n r)) [] with h' | ⟨pre, m, post, c, h1, h2, h3⟩
    · unfold chain at c1
      rw [h'] at c1
      simp at c1
    · have hch : chain l n (cls l n r) = c := h3
      have hm : m ∈ mks l (cls l n r) := by rw [h1]; simp
      -- the first mark, said first
      obtain ⟨i', d, hii, hd, hdup, hfi⟩ := first_says l i ci h.gi
      have hpd := hp d (List.mem_of_getElem? hd)
      have hkd := fact_kind (hp ci (List.mem_of_getElem? h.gi)) hpd hfi
      rw [hi0] at hkd
      have hfm := fact_mark hfi hi0 hkd
      have hmi : i' ∈ mrk l u l.length := mrk_in hd hdup hkd (by rw [hfm.1, hu]) l.length (List.getElem?_eq_some_iff.1 hd).1
      have hvi : vertAt l i' = u := vert_eq hmi
      have hmai : markAt l i' = ci.mark := by unfold markAt; rw [hd]; exact hfm.2
      have hmem : i' ∈ mks l (cls l n r) := mks_iff.2 ⟨u, (cls_iff hp hr).2 hcn, hmi⟩
      -- the last mark, said first
      obtain ⟨k', e, hkk', he, hedup, hfk⟩ := first_says l k ck h.gk
      have hpe := hp e (List.mem_of_getElem? he)
      have hke := fact_kind (hp ck (List.mem_of_getElem? h.gk)) hpe hfk
      rw [hk0] at hke
      have hfe := fact_mark hfk hk0 hke
      have hmk : k' ∈ mrk l v l.length := mrk_in he hedup hke (by rw [hfe.1, hv]) l.length (List.getElem?_eq_some_iff.1 he).1
      have hmak : markAt l k' = ck.mark := by unfold markAt; rw [he]; exact hfe.2
      have hD : Dist l i' es.length := ⟨v, k', by rw [hvi]; exact hrk, hmk, by rw [hmai, hmak]; exact h.excl⟩
      obtain ⟨d0, e1, e2, e3, e4⟩ := (frm_spec hp (hvm m hm)).1 c h2
      have hpre := (chn_spec hp pre [] (fun k hk => hvm k (by rw [h1]; exact List.mem_append.2 (.inl hk)))).2.1
      have hs : (pre ++ m :: post).Pairwise (· ≤ ·) := by rw [← h1]; exact srt_sorted _
      have hmle : m ≤ i' := by
        rw [h1] at hmem
        rcases List.mem_append.1 hmem with hm' | hm'
        · obtain ⟨k1, k2⟩ := hpre i' hm' es.length hD
          have := e4 k1
          rw [hch] at hge c2
          omega
        · rcases List.mem_cons.1 hm' with rfl | hm'
          · exact Nat.le_refl _
          · exact (List.pairwise_cons.1 (List.pairwise_append.1 hs).2.1).1 i' hm'
      rw [hch]
      rcases Nat.lt_or_ge m i with hlt | hge2
      · obtain ⟨es1, q, d1, f1, f2, _⟩ := frm_form hp (hvm m hm) h2
        rw [hch] at hge c2
        rw [f1] at hge c2 ⊢
        simp only [List.length_cons, List.length_append, List.length_nil] at hge c2
        refine .inr ⟨by simp; omega, .inr ?_⟩
        rw [ltx, if_neg (by omega)]
        simpa using hlt
      · obtain rfl : m = i := by omega
        refine frm_min hp (hvm m hm) h2 h.gk h.kk ?_ ?_
        · have : vertAt l m = u := by unfold vertAt; rw [h.gi]; dsimp only; omega
          rw [this]; exact hlu
        · have : markAt l m = ci.mark := by unfold markAt; rw [h.gi]
          rw [this]; exact h.excl
/-- a chain of the class that is not later than any other one is the chain -/
theorem chain_uniq {l : List Con} {n r i k : Nat} {es : List Nat} {ci ck : Con} (hp : ∀ x ∈ l, posB n x = true) (hr : r < n) (h : TC l r i k es ci ck) (hmin : ∀ (i' k' : Nat) (es' : List Nat) (ci' ck' : Con), i' < k' → TC l r i' k' es' ci' ck' → leL (i :: (es ++ [k])) (i' :: (es' ++ [k']))) : chain l n (cls l n r) = i :: (es ++ [k]) := by
  have h1 := chain_min hp hr h
  have hpi := pos_cases (hp ci (List.mem_of_getElem? h.gi))
  obtain ⟨u, hu⟩ : ∃ u : Nat, ci.a = (u : Int) := ⟨ci.a.toNat, by omega⟩
  have hlu := h.leads
  rw [hu] at hlu
  have hcn := h.conn
  rw [hu, Int.toNat_natCast] at hcn
  obtain ⟨v, hv, hrk⟩ := wlk_rk (l2 := l) hp es u ck.a hlu (fun _ _ c hc => List.mem_of_getElem? hc)
  have hF : Far l r es.length := ⟨u, v, ci.mark, ck.mark, hcn, ⟨i, ci, h.gi, by rw [h.ki]; rfl, hu, rfl⟩, ⟨k, ck, h.gk, by rw [h.kk]; rfl, hv, rfl⟩, hrk, h.excl⟩
  obtain ⟨c1, c2⟩ := (chain_spec hp hr).2 _ hF
  obtain ⟨m, q, es2, hok, hc2⟩ := chain_form hp hr c1
  obtain ⟨cm, cq, hI, hva⟩ := hok.isCh
  refine h1.anti ?_
  rw [hI.form]
  refine hmin m q es2 cm cq hI.lt ⟨hI.gm, hI.gq, hI.km, hI.kq, ?_, hI.leads, hI.excl⟩
  rw [hva, Int.toNat_natCast]
  exact hc2
end Go.Proofs.YtmamajillkajoaaDoor
