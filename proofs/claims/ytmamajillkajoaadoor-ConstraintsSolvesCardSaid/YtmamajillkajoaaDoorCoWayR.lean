/- What is proved: the way that the reference goes, step by step, is the first one of the shortest: plain mathematics. -/
import Derived.Test.YtmamajillkajoaaDoorCoLex
set_option linter.unusedVariables false
namespace Go.Proofs.YtmamajillkajoaaDoor
open Go.RowKit

/-- the first one of the shortest ways -/
def WayOk (l : List Con) (a : Nat) (t : Nat) (W : List Nat) : Prop := wlk l (a : Int) W = some (t : Int) ∧ ∀ es, wlk l (a : Int) es = some (t : Int) → leL W es
/-- an equality that leads nearer -/
def Good (l : List Con) (f : Nat → Int) (cur j nx : Nat) : Prop := ∃ c, l[j]? = some c ∧ c.kind = 1 ∧ (c.a = (cur : Int) ∧ c.b = (nx : Int) ∨ c.a ≠ (cur : Int) ∧ c.b = (cur : Int) ∧ c.a = (nx : Int)) ∧ f nx = f cur - 1
/-- a way under way -/
structure WInv (l : List Con) (f : Nat → Int) (a t : Nat) (P : List Nat) (cur : Nat) : Prop where
  led : wlk l (a : Int) P = some (cur : Int)
  len : (P.length : Int) + f cur = f a
  min : ∀ es, wlk l (a : Int) es = some (t : Int) → (es.length : Int) = f a → (∃ rest, es = P ++ rest ∧ wlk l (cur : Int) rest = some (t : Int)) ∨ ltx P (es.take P.length) = true
theorem WInv.start (l : List Con) (f : Nat → Int) (a t : Nat) : WInv l f a t [] a := ⟨rfl, by simp, fun es h _ => .inl ⟨es, rfl, h⟩⟩
theorem Good.adj {l : List Con} {f : Nat → Int} {cur j nx : Nat} (h : Good l f cur j nx) : Adj l cur nx := by
  obtain ⟨c, h1, h2, h3, _⟩ := h
  refine ⟨j, c, h1, by rw [h2]; rfl, ?_⟩
  rcases h3 with h | ⟨_, h⟩
  · exact .inl h
  · exact .inr h
theorem dist_walk {l : List Con} {n t u : Nat} {f : Nat → Int} (hp : ∀ x ∈ l, posB n x = true) (hf : DOk l n t f) (hu : u < n) {es : List Nat} (h : wlk l (u : Int) es = some (t : Int)) : 0 ≤ f u ∧ f u ≤ es.length := by
  obtain ⟨b', hb, hr⟩ := wlk_rk (l2 := l) hp es u _ h (fun _ _ c hc => List.mem_of_getElem? hc)
  have : b' = t := by omega
  subst this
  rcases hf u hu with ⟨_, hn⟩ | ⟨k, _, h1, h2⟩
  · exact absurd ⟨_, hr.symm⟩ hn
  · refine ⟨by omega, ?_⟩
    rcases Nat.lt_or_ge es.length k with hlt | hge
    · exact absurd hr.symm (h2.2 _ hlt)
    · omega
theorem dist_adj {l : List Con} {n t u v : Nat} {f : Nat → Int} (hf : DOk l n t f) (hu : u < n) (hv : v < n) (ha : Adj l u v) (h0 : 0 ≤ f v) : f u ≤ f v + 1 := by
  rcases hf v hv with ⟨e, _⟩ | ⟨k, _, h1, h2⟩
  · omega
  · have hr : Rk l (k + 1) t u := ⟨v, h2.1, ha.symm⟩
    rcases hf u hu with ⟨e, _⟩ | ⟨j, _, g1, g2⟩
    · omega
    · rcases Nat.lt_or_ge (k + 1) j with hlt | hge
      · exact absurd hr (g2.2 _ hlt)
      · omega
theorem wlk_cons {l : List Con} {a : Int} {i : Nat} {is : List Nat} {c : Con} {nx : Int} (hc : l[i]? = some c) (hk : c.kind = 1) (h : c.a = a ∧ c.b = nx ∨ c.a ≠ a ∧ c.b = a ∧ c.a = nx) : wlk l a (i :: is) = wlk l nx is := by
  rw [wlk, hc]
  dsimp only
  rw [show (c.kind == 1) = true by rw [hk]; rfl, if_pos rfl]
  rcases h with ⟨h1, h2⟩ | ⟨h0, h1, h2⟩
  · rw [if_pos (by simpa using h1), h2]
  · rw [if_neg (by simpa using h0), if_pos (by simpa using h1), h2]
/-- a good equality exists -/
theorem good_ex {l : List Con} {n t cur : Nat} {f : Nat → Int} (hp : ∀ x ∈ l, posB n x = true) (hf : DOk l n t f) (hc : cur < n) (h0 : 0 < f cur) : ∃ j nx, Good l f cur j nx := by
  rcases hf cur hc with ⟨e, _⟩ | ⟨k, _, h1, h2⟩
  · omega
  · obtain ⟨k', rfl⟩ : ∃ k', k = k' + 1 := ⟨k - 1, by omega⟩
    obtain ⟨w, hw, hA⟩ := h2.prev
    have hwn := (hA.lt hp).1
    have fw : f w = (k' : Int) := by
      rcases hf w hwn with ⟨_, hn⟩ | ⟨j, _, g1, g2⟩
      · exact absurd ⟨k', hw.1⟩ hn
      · rw [g1, g2.uniq hw]
    have hAs := hA.symm
    obtain ⟨j, c, hj, hk, hab⟩ := hAs
    have hk1 : c.kind = 1 := by
      rcases (pos_cases (hp c (List.mem_of_getElem? hj))).2 with ⟨e, _⟩ | ⟨e, _⟩
      · rw [e] at hk; cases hk
      · exact e
    by_cases e : c.a = (cur : Int)
    · rcases hab with ⟨_, g2⟩ | ⟨g1, g2⟩
      · exact ⟨j, w, c, hj, hk1, .inl ⟨e, g2⟩, by omega⟩
      · refine ⟨j, w, c, hj, hk1, .inl ⟨e, ?_⟩, by omega⟩
        have : w = cur := by omega
        omega
    · rcases hab with ⟨g1, _⟩ | ⟨g1, g2⟩
      · exact absurd g1 e
      · exact ⟨j, w, c, hj, hk1, .inr ⟨e, g1, g2⟩, by omega⟩
theorem WInv.step {l : List Con} {n a t cur i nx : Nat} {f : Nat → Int} {P : List Nat} (hp : ∀ x ∈ l, posB n x = true) (hf : DOk l n t f) (hc : cur < n) (h : WInv l f a t P cur) (hg : Good l f cur i nx) (hmin : ∀ j nx', j < i → ¬ Good l f cur j nx') (h0 : 0 < f cur) : WInv l f a t (P ++ [i]) nx := by
  have hg' := hg
  obtain ⟨c, c1, c2, c3, c4⟩ := hg
  refine ⟨?_, ?_, fun es hes hlen => ?_⟩
  · rw [wlk_append l _ _ _ _ h.led, wlk_cons c1 c2 c3]
    rfl
  · have := h.len
    simp only [List.length_append, List.length_cons, List.length_nil]
    omega
  · rcases h.min es hes hlen with ⟨rest, rfl, hr⟩ | hlt
    · have hl := h.len
      rw [List.length_append] at hlen
      cases rest with
      | nil => simp at hlen; omega
      | cons e rest' =>
        obtain ⟨ce, d1, d2, d3⟩ := wlk_step hr
        have hpc := pos_cases (hp ce (List.mem_of_getElem? d1))
        have hbb : 0 ≤ ce.b ∧ ce.b < n := by
          rcases hpc.2 with ⟨k0, _⟩ | ⟨_, k1, k2⟩
          · omega
          · exact ⟨k1, k2⟩
        have hnx : ∃ v : Nat, v < n ∧ (ce.a = (cur : Int) ∧ ce.b = (v : Int) ∨ ce.a ≠ (cur : Int) ∧ ce.b = (cur : Int) ∧ ce.a = (v : Int)) ∧ wlk l (v : Int) rest' = some (t : Int) := by
          rcases d3 with ⟨e1, e2⟩ | ⟨e0, e1, e2⟩
          · refine ⟨ce.b.toNat, by omega, .inl ⟨e1, by omega⟩, ?_⟩
            rw [show ((ce.b.toNat : Nat) : Int) = ce.b by omega]
            exact e2
          · refine ⟨ce.a.toNat, by omega, .inr ⟨e0, e1, by omega⟩, ?_⟩
            rw [show ((ce.a.toNat : Nat) : Int) = ce.a by omega]
            exact e2
        obtain ⟨v, hv, hv1, hv2⟩ := hnx
        obtain ⟨w1, w2⟩ := dist_walk hp hf hv hv2
        have hadj : Adj l cur v := by
          refine ⟨e, ce, d1, by rw [d2]; rfl, ?_⟩
          rcases hv1 with g | ⟨_, g⟩
          · exact .inl g
          · exact .inr g
        have w3 := dist_adj hf hc hv hadj w1
        simp only [List.length_cons] at hlen
        have hge : Good l f cur e v := ⟨ce, d1, d2, hv1, by omega⟩
        have hie : i ≤ e := by
          rcases Nat.lt_or_ge e i with hlt | hge'
          · exact absurd hge (hmin e v hlt)
          · exact hge'
        rcases Nat.lt_or_ge i e with hlt | hge'
        · right
          rw [show (P ++ e :: rest').take (P ++ [i]).length = P ++ [e] by rw [show P ++ e :: rest' = (P ++ [e]) ++ rest' by simp]; exact List.take_left' (by simp)]
          exact ltx_snoc P [] [] hlt
        · left
          obtain rfl : i = e := by omega
          rw [c1] at d1
          obtain rfl : c = ce := by simpa using d1
          have : nx = v := by rcases c3 with g | g <;> rcases hv1 with g' | g' <;> omega
          subst this
          exact ⟨rest', by simp, hv2⟩
    · right
      have hl := h.len
      have e1 : es.take (P ++ [i]).length = es.take P.length ++ (es.drop P.length).take 1 := by
        rw [List.length_append, List.length_singleton, List.take_add]
      rw [e1]
      exact ltx_append _ _ hlt
theorem WInv.fin {l : List Con} {n a t cur : Nat} {f : Nat → Int} {P : List Nat} (hp : ∀ x ∈ l, posB n x = true) (hf : DOk l n t f) (ha : a < n) (hc : cur < n) (h : WInv l f a t P cur) (h0 : f cur = 0) : WayOk l a t P := by
  have hct : cur = t := by
    rcases hf cur hc with ⟨e, _⟩ | ⟨k, _, h1, h2⟩
    · omega
    · obtain rfl : k = 0 := by omega
      exact h2.1.symm
  subst hct
  refine ⟨h.led, fun es hes => ?_⟩
  have hl := h.len
  obtain ⟨w1, w2⟩ := dist_walk hp hf ha hes
  by_cases e : (es.length : Int) = f a
  · rcases h.min es hes e with ⟨rest, rfl, _⟩ | hlt
    · rw [List.length_append] at e
      have : rest = [] := List.eq_nil_of_length_eq_zero (by omega)
      rw [this, List.append_nil]
      exact leL.refl _
    · have hle : P.length = es.length := by omega
      rw [hle, List.take_length] at hlt
      exact .inr ⟨hle, .inr hlt⟩
  · exact .inl (by omega)
theorem WInv.lt {l : List Con} {n a t cur : Nat} {f : Nat → Int} {P : List Nat} (hf : DOk l n t f) (ha : a < n) (h : WInv l f a t P cur) (h0 : 0 ≤ f cur) : P.length ≤ n := by
  have := h.len
  rcases hf a ha with ⟨e, _⟩ | ⟨k, hk, e, _⟩ <;> omega
end Go.Proofs.YtmamajillkajoaaDoor
