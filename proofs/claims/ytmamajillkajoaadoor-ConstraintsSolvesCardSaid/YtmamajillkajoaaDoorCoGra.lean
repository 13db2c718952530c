/- What is proved: the search finds the vertices in the order of their distances: plain mathematics of the graph of constraints. -/
import Derived.Test.YtmamajillkajoaaDoorCoSolve
set_option linter.unusedVariables false
namespace Go.Proofs.YtmamajillkajoaaDoor
open Go.RowKit

/-- an equality joins two vertices -/
def Adj (l : List Con) (u v : Nat) : Prop := ∃ (k : Nat) (c : Con), l[k]? = some c ∧ (c.kind == 0) = false ∧ (c.a = (u : Int) ∧ c.b = (v : Int) ∨ c.b = (u : Int) ∧ c.a = (v : Int))
/-- a vertex has a mark -/
def Mk (l : List Con) (v : Nat) (t : TyV) : Prop := ∃ (k : Nat) (c : Con), l[k]? = some c ∧ (c.kind == 0) = true ∧ c.a = (v : Int) ∧ c.mark = t
/-- k equalities lead from a vertex to another one -/
def Rk (l : List Con) : Nat → Nat → Nat → Prop
  | 0, u, v => u = v
  | k + 1, u, v => ∃ w, Rk l k u w ∧ Adj l w v
def Conn (l : List Con) (u v : Nat) : Prop := ∃ k, Rk l k u v
theorem Adj.symm {l : List Con} {u v : Nat} (h : Adj l u v) : Adj l v u := by
  obtain ⟨k, c, h1, h2, h3⟩ := h
  exact ⟨k, c, h1, h2, h3.elim (fun h => .inr ⟨h.2, h.1⟩) (fun h => .inl ⟨h.2, h.1⟩)⟩
theorem Rk.head {l : List Con} : ∀ {k u w v : Nat}, Adj l u w → Rk l k w v → Rk l (k + 1) u v
  | 0, u, w, v, h, e => ⟨u, rfl, by obtain rfl : w = v := e; exact h⟩
  | k + 1, u, w, v, h, ⟨x, h1, h2⟩ => ⟨x, Rk.head h h1, h2⟩
theorem Rk.symm {l : List Con} : ∀ {k u v : Nat}, Rk l k u v → Rk l k v u
  | 0, u, v, h => by obtain rfl : u = v := h; rfl
  | k + 1, u, v, ⟨w, h1, h2⟩ => Rk.head h2.symm (Rk.symm h1)
theorem Rk.trans {l : List Con} : ∀ {k j u v w : Nat}, Rk l j u v → Rk l k v w → Rk l (j + k) u w
  | 0, j, u, v, w, h, e => by obtain rfl : v = w := e; exact h
  | k + 1, j, u, v, w, h, ⟨x, h1, h2⟩ => ⟨x, Rk.trans h h1, h2⟩
theorem Conn.refl (l : List Con) (u : Nat) : Conn l u u := ⟨0, rfl⟩
theorem Conn.symm {l : List Con} {u v : Nat} (h : Conn l u v) : Conn l v u := by
  obtain ⟨k, hk⟩ := h
  exact ⟨k, hk.symm⟩
theorem Conn.trans {l : List Con} {u v w : Nat} (h : Conn l u v) (g : Conn l v w) : Conn l u w := by
  obtain ⟨j, hj⟩ := h
  obtain ⟨k, hk⟩ := g
  exact ⟨j + k, hj.trans hk⟩

/-- the same said before: the first one that says it -/
theorem first_says (l : List Con) : ∀ (k : Nat) (c : Con), l[k]? = some c → ∃ j d, j ≤ k ∧ l[j]? = some d ∧ dupB l j d = false ∧ factK d = factK c := by
  intro k
  induction k using Nat.strongRecOn with
  | ind k ih =>
    intro c hc
    cases hd : dupB l k c with
    | false => exact ⟨k, c, Nat.le_refl _, hc, hd, rfl⟩
    | true =>
      unfold dupB at hd
      obtain ⟨d, hm, hs⟩ := List.any_eq_true.1 hd
      obtain ⟨j, hj, hjd⟩ := List.getElem_of_mem hm
      rw [List.length_take] at hj
      rw [List.getElem_take] at hjd
      obtain ⟨j', d', h1, h2, h3, h4⟩ := ih j (by omega) d (by rw [List.getElem?_eq_getElem (by omega), hjd])
      exact ⟨j', d', by omega, h2, h3, h4.trans ((sayB_iff d c).1 hs)⟩
theorem eqs_in {l : List Con} {v j : Nat} {d : Con} (hj : l[j]? = some d) (hd : dupB l j d = false) (hk : (d.kind == 0) = false) (hv : d.a = (v : Int) ∨ d.b = (v : Int)) : ∀ k, j < k → j ∈ eqs l v k := by
  intro k
  induction k with
  | zero => intro h; omega
  | succ k ih =>
    intro h
    rw [eqs, List.mem_append]
    rcases Nat.lt_or_ge j k with h' | h'
    · exact .inl (ih h')
    · obtain rfl : j = k := by omega
      right
      rw [hj]
      simp only [hd, hk, Bool.false_eq_true, if_false, List.mem_append]
      rcases hv with hv | hv
      · left; simp [hv]
      · right; simp [hv]
theorem mrk_in {l : List Con} {v j : Nat} {d : Con} (hj : l[j]? = some d) (hd : dupB l j d = false) (hk : (d.kind == 0) = true) (hv : d.a = (v : Int)) : ∀ k, j < k → j ∈ mrk l v k := by
  intro k
  induction k with
  | zero => intro h; omega
  | succ k ih =>
    intro h
    rw [mrk, List.mem_append]
    rcases Nat.lt_or_ge j k with h' | h'
    · exact .inl (ih h')
    · obtain rfl : j = k := by omega
      right
      rw [hj]
      simp [hd, hk, hv]
theorem fact_kind {c d : Con} {n : Nat} (hc : posB n c = true) (hd : posB n d = true) (h : factK d = factK c) : (d.kind == 0) = (c.kind == 0) := by
  unfold factK at h
  rcases (pos_cases hc).2 with ⟨e1, _⟩ | ⟨e1, _⟩ <;> rcases (pos_cases hd).2 with ⟨e2, _⟩ | ⟨e2, _⟩ <;> rw [e1, e2] at h ⊢ <;> simp at h ⊢
theorem fact_mark {c d : Con} (h : factK d = factK c) (hc : (c.kind == 0) = true) (hd : (d.kind == 0) = true) : d.a = c.a ∧ d.mark = c.mark := by
  have e1 : c.kind = 0 := by simpa using hc
  have e2 : d.kind = 0 := by simpa using hd
  unfold factK at h
  rw [e1, e2] at h
  simp at h
  exact h
theorem fact_equal {c d : Con} {n : Nat} (hpc : posB n c = true) (hpd : posB n d = true) (h : factK d = factK c) (hc : (c.kind == 0) = false) : (d.a = c.a ∧ d.b = c.b) ∨ (d.a = c.b ∧ d.b = c.a) := by
  have hk := fact_kind hpc hpd h
  rw [hc] at hk
  have e1 : c.kind = 1 := by
    rcases (pos_cases hpc).2 with ⟨e, _⟩ | ⟨e, _⟩
    · rw [e] at hc; simp at hc
    · exact e
  have e2 : d.kind = 1 := by
    rcases (pos_cases hpd).2 with ⟨e, _⟩ | ⟨e, _⟩
    · rw [e] at hk; simp at hk
    · exact e
  unfold factK at h
  rw [e1, e2] at h
  simp at h
  omega
/-- the neighbours of a vertex -/
theorem nb_iff {l : List Con} {n : Nat} (hp : ∀ x ∈ l, posB n x = true) {v o : Nat} : (∃ e, e ∈ eqs l v l.length ∧ oth l e v = o) ↔ Adj l v o := by
  constructor
  · rintro ⟨e, he, ho⟩
    obtain ⟨_, c, hc, hk, hab⟩ := eqs_mem he
    have hpc := pos_cases (hp c (List.mem_of_getElem? hc))
    unfold oth at ho
    rw [hc] at ho
    dsimp only at ho
    refine ⟨e, c, hc, hk, ?_⟩
    rcases hpc.2 with ⟨e0, _⟩ | ⟨_, b1, b2⟩
    · rw [e0] at hk; simp at hk
    · have := hpc.1
      rcases hab with h | h
      · left; exact ⟨h, by omega⟩
      · right; exact ⟨h, by omega⟩
  · rintro ⟨k, c, hc, hk, hab⟩
    obtain ⟨j, d, hjk, hd, hdup, hf⟩ := first_says l k c hc
    have hpc := hp c (List.mem_of_getElem? hc)
    have hpd := hp d (List.mem_of_getElem? hd)
    have hkd := fact_kind hpc hpd hf
    rw [hk] at hkd
    have hjl : j < l.length := (List.getElem?_eq_some_iff.1 hd).1
    have hcases := fact_equal hpc hpd hf hk
    refine ⟨j, eqs_in hd hdup hkd (by rcases hcases with h | h <;> rcases hab with g | g <;> omega) l.length hjl, ?_⟩
    unfold oth
    rw [hd]
    dsimp only
    rcases hcases with h | h <;> rcases hab with g | g <;> omega
theorem mk_iff {l : List Con} {n : Nat} (hp : ∀ x ∈ l, posB n x = true) {v : Nat} {t : TyV} : (∃ e, e ∈ mrk l v l.length ∧ markAt l e = t) ↔ Mk l v t := by
  constructor
  · rintro ⟨e, he, ht⟩
    obtain ⟨_, c, hc, hk, ha⟩ := mrk_mem he
    unfold markAt at ht
    rw [hc] at ht
    exact ⟨e, c, hc, hk, ha, ht⟩
  · rintro ⟨k, c, hc, hk, ha, ht⟩
    obtain ⟨j, d, hjk, hd, hdup, hf⟩ := first_says l k c hc
    have hkd := fact_kind (hp c (List.mem_of_getElem? hc)) (hp d (List.mem_of_getElem? hd)) hf
    rw [hk] at hkd
    have hfm := fact_mark hf hk hkd
    refine ⟨j, mrk_in hd hdup hkd (by rw [hfm.1, ha]) l.length (List.getElem?_eq_some_iff.1 hd).1, ?_⟩
    unfold markAt
    rw [hd]
    exact hfm.2.trans ht

/-- a search under way: the visits, of which the first i have been left -/
structure BI (l : List Con) (s i : Nat) (vs : List Vis) : Prop where
  first : ∃ x, vs[0]? = some x ∧ x.v = s ∧ x.st = 0 ∧ x.fr = -1
  par : ∀ (j : Nat) (x : Vis), vs[j]? = some x → 0 < j → ∃ (p e : Nat) (y : Vis), x.fr = (p : Int) ∧ p < j ∧ vs[p]? = some y ∧ x.by_ = (e : Int) ∧ e ∈ eqs l y.v l.length ∧ oth l e y.v = x.v ∧ x.st = y.st + 1
  mono : ∀ (j k : Nat) (x y : Vis), j ≤ k → vs[j]? = some x → vs[k]? = some y → x.st ≤ y.st
  near : ∀ (k : Nat) (x y : Vis), vs[i]? = some x → vs[k]? = some y → y.st ≤ x.st + 1
  closed : ∀ (j : Nat) (x : Vis) (e : Nat), j < i → vs[j]? = some x → e ∈ eqs l x.v l.length → ∃ (k : Nat) (y : Vis), vs[k]? = some y ∧ y.v = oth l e x.v ∧ y.st ≤ x.st + 1
theorem BI.one (l : List Con) (s : Nat) : BI l s 0 [⟨s, -1, -1, 0⟩] := by
  have one : ∀ (j : Nat) (x : Vis), ([⟨s, -1, -1, 0⟩] : List Vis)[j]? = some x → j = 0 ∧ x = ⟨s, -1, -1, 0⟩ := fun j x h => by
    cases j with
    | zero => simp at h; exact ⟨rfl, h.symm⟩
    | succ j => simp at h
  refine ⟨⟨_, rfl, rfl, rfl, rfl⟩, fun j x h hj => ?_, fun j k x y _ h1 h2 => ?_, fun k x y h1 h2 => ?_, fun j x e hj => by omega⟩
  · have := one j x h; omega
  · rw [(one j x h1).2, (one k y h2).2]; exact Nat.le_refl _
  · rw [(one 0 x h1).2, (one k y h2).2]; omega
/-- visits behind a visit's neighbours: what expand keeps -/
structure EI (l : List Con) (s i : Nat) (x : Vis) (vs : List Vis) : Prop where
  first : ∃ x, vs[0]? = some x ∧ x.v = s ∧ x.st = 0 ∧ x.fr = -1
  at_ : vs[i]? = some x
  par : ∀ (j : Nat) (x : Vis), vs[j]? = some x → 0 < j → ∃ (p e : Nat) (y : Vis), x.fr = (p : Int) ∧ p < j ∧ vs[p]? = some y ∧ x.by_ = (e : Int) ∧ e ∈ eqs l y.v l.length ∧ oth l e y.v = x.v ∧ x.st = y.st + 1
  mono : ∀ (j k : Nat) (x y : Vis), j ≤ k → vs[j]? = some x → vs[k]? = some y → x.st ≤ y.st
  near : ∀ (k : Nat) (y : Vis), vs[k]? = some y → y.st ≤ x.st + 1
  closed : ∀ (j : Nat) (x : Vis) (e : Nat), j < i → vs[j]? = some x → e ∈ eqs l x.v l.length → ∃ (k : Nat) (y : Vis), vs[k]? = some y ∧ y.v = oth l e x.v ∧ y.st ≤ x.st + 1
theorem getElem?_snoc {α : Type} {vs : List α} {z : α} {j : Nat} {x : α} (h : (vs ++ [z])[j]? = some x) : vs[j]? = some x ∨ (j = vs.length ∧ x = z) := by
  rw [List.getElem?_append] at h
  split at h
  · exact .inl h
  · rename_i hj
    cases hj' : j - vs.length with
    | zero => rw [hj'] at h; simp at h; exact .inr ⟨by omega, h.symm⟩
    | succ m => rw [hj'] at h; simp at h
theorem get_snoc_old {α : Type} {vs : List α} {z : α} {j : Nat} {x : α} (h : vs[j]? = some x) : (vs ++ [z])[j]? = some x := by
  rw [List.getElem?_append_left (List.getElem?_eq_some_iff.1 h).1]; exact h
theorem get_snoc_new {α : Type} {vs : List α} {z : α} : (vs ++ [z])[vs.length]? = some z := by
  rw [List.getElem?_append_right (Nat.le_refl _)]; simp
theorem EI.push {l : List Con} {s i : Nat} {x : Vis} {vs : List Vis} (h : EI l s i x vs) {e : Nat} (he : e ∈ eqs l x.v l.length) : EI l s i x (vs ++ [⟨oth l e x.v, i, e, x.st + 1⟩]) := by
  have hil : i < vs.length := (List.getElem?_eq_some_iff.1 h.at_).1
  obtain ⟨x0, f1, f2⟩ := h.first
  refine ⟨⟨x0, get_snoc_old f1, f2⟩, get_snoc_old h.at_, fun j y hy hj => ?_, fun j k y z hjk hy hz => ?_, fun k y hy => ?_, fun j y e' hj hy he' => ?_⟩
  · rcases getElem?_snoc hy with hy | ⟨rfl, rfl⟩
    · obtain ⟨p, e', y', k1, k2, k3, k4⟩ := h.par j y hy hj
      exact ⟨p, e', y', k1, k2, get_snoc_old k3, k4⟩
    · exact ⟨i, e, x, rfl, hil, get_snoc_old h.at_, rfl, he, rfl, rfl⟩
  · rcases getElem?_snoc hz with hz | ⟨rfl, rfl⟩
    · rcases getElem?_snoc hy with hy | ⟨rfl, rfl⟩
      · exact h.mono j k y z hjk hy hz
      · have := (List.getElem?_eq_some_iff.1 hz).1; omega
    · rcases getElem?_snoc hy with hy | ⟨rfl, rfl⟩
      · exact h.near j y hy
      · exact Nat.le_refl _
  · rcases getElem?_snoc hy with hy | ⟨rfl, rfl⟩
    · exact h.near k y hy
    · exact Nat.le_refl _
  · rcases getElem?_snoc hy with hy | ⟨rfl, rfl⟩
    · obtain ⟨k, z, k1, k2⟩ := h.closed j y e' hj hy he'
      exact ⟨k, z, get_snoc_old k1, k2⟩
    · omega
theorem inV_get {vs : List Vis} {o : Nat} : inV vs o = true ↔ ∃ (k : Nat) (y : Vis), vs[k]? = some y ∧ y.v = o := by
  unfold inV
  rw [List.any_eq_true]
  constructor
  · rintro ⟨y, hy, e⟩
    obtain ⟨k, hk, rfl⟩ := List.getElem_of_mem hy
    exact ⟨k, _, List.getElem?_eq_getElem hk, by simpa using e⟩
  · rintro ⟨k, y, hy, e⟩
    exact ⟨y, List.mem_of_getElem? hy, by simpa using e⟩
theorem EI.expand {l : List Con} {s i : Nat} {x : Vis} : ∀ {es : List Nat} {vs : List Vis}, EI l s i x vs → (∀ e ∈ es, e ∈ eqs l x.v l.length) → EI l s i x (expand l i x es vs) ∧ (∀ e ∈ es, ∃ (k : Nat) (y : Vis), (expand l i x es vs)[k]? = some y ∧ y.v = oth l e x.v) ∧ (∀ (k : Nat) (y : Vis), vs[k]? = some y → (expand l i x es vs)[k]? = some y)
  | [], vs, h, _ => ⟨h, fun e he => by simp at he, fun k y hy => hy⟩
  | e :: es, vs, h, hi => by
    rw [Proofs.YtmamajillkajoaaDoor.expand]
    cases hin : inV vs (oth l e x.v) with
    | true =>
      obtain ⟨h1, h2, h3⟩ := EI.expand h (fun e' he' => hi e' (List.mem_cons_of_mem _ he'))
      refine ⟨h1, fun e' he' => ?_, h3⟩
      rcases List.mem_cons.1 he' with rfl | he'
      · obtain ⟨k, y, k1, k2⟩ := inV_get.1 hin
        exact ⟨k, y, h3 k y k1, k2⟩
      · exact h2 e' he'
    | false =>
      obtain ⟨h1, h2, h3⟩ := EI.expand (h.push (hi e (List.mem_cons_self ..))) (fun e' he' => hi e' (List.mem_cons_of_mem _ he'))
      refine ⟨h1, fun e' he' => ?_, fun k y hy => h3 k y (get_snoc_old hy)⟩
      rcases List.mem_cons.1 he' with rfl | he'
      · exact ⟨vs.length, _, h3 _ _ get_snoc_new, rfl⟩
      · exact h2 e' he'
theorem BI.next {l : List Con} {s i : Nat} {x : Vis} {vs : List Vis} (h : BI l s i vs) (hx : vs[i]? = some x) : BI l s (i + 1) (expand l i x (eqs l x.v l.length) vs) ∧ i + 1 ≤ (expand l i x (eqs l x.v l.length) vs).length ∧ (∀ (k : Nat) (y : Vis), vs[k]? = some y → (expand l i x (eqs l x.v l.length) vs)[k]? = some y) := by
  have hE : EI l s i x vs := ⟨h.first, hx, h.par, h.mono, fun k y hy => h.near k x y hx hy, h.closed⟩
  obtain ⟨h1, h2, h3⟩ := EI.expand hE (fun e he => he)
  refine ⟨⟨h1.first, h1.par, h1.mono, fun k y z hy hz => ?_, fun j y e hj hy he => ?_⟩, (List.getElem?_eq_some_iff.1 h1.at_).1, h3⟩
  · have q1 := h1.near k z hz
    have q2 := h1.mono i (i + 1) x y (by omega) h1.at_ hy
    omega
  · rcases Nat.lt_or_ge j i with hj' | hj'
    · exact h1.closed j y e hj' hy he
    · obtain rfl : j = i := by omega
      rw [h1.at_] at hy
      obtain rfl : x = y := by simpa using hy
      obtain ⟨k, z, k1, k2⟩ := h2 e he
      exact ⟨k, z, k1, k2, h1.near k z k1⟩

/-- how a search ends: all is visited, or it stopped at the visit i -/
def BEnd (l : List Con) (s : Nat) (p : Vis → Bool) (r : List Vis) : Prop :=
  (∃ i, BI l s i r ∧ i = r.length ∧ ∀ x ∈ r, p x = false) ∨
  (∃ (i : Nat) (vs : List Vis) (x : Vis), BI l s i vs ∧ r = vs.take (i + 1) ∧ vs[i]? = some x ∧ p x = true ∧ ∀ (j : Nat) (y : Vis), j < i → vs[j]? = some y → p y = false)
theorem bfs_end {l : List Con} {n s : Nat} {p : Vis → Bool} (hp : ∀ x ∈ l, posB n x = true) : ∀ {f i : Nat} {vs : List Vis}, BI l s i vs → VP n vs → i ≤ vs.length → n + 1 ≤ f + i → (∀ (j : Nat) (y : Vis), j < i → vs[j]? = some y → p y = false) → BEnd l s p (bfs l p f i vs).1
  | 0, i, vs, hb, hv, hi, hf, _ => by
    have := nodup_len hv.2 (fun u hu => by
      obtain ⟨x, hx, rfl⟩ := List.mem_map.1 hu
      exact hv.1 x hx)
    rw [List.length_map] at this
    omega
  | f + 1, i, vs, hb, hv, hi, hf, hno => by
    rw [Proofs.YtmamajillkajoaaDoor.bfs]
    cases hx : vs[i]? with
    | none =>
      have hil : vs.length ≤ i := List.getElem?_eq_none_iff.1 hx
      show BEnd l s p vs
      refine .inl ⟨i, hb, by omega, fun x hx' => ?_⟩
      obtain ⟨j, hj, rfl⟩ := List.getElem_of_mem hx'
      exact hno j _ (by omega) (List.getElem?_eq_getElem hj)
    | some x =>
      dsimp only
      cases hpx : p x with
      | true =>
        rw [if_pos rfl]
        exact .inr ⟨i, vs, x, hb, rfl, hx, hpx, hno⟩
      | false =>
        rw [if_neg (by decide)]
        obtain ⟨h1, h2, h3⟩ := hb.next hx
        refine bfs_end hp h1 (hv.expand fun e he => oth_lt hp (hv.1 x (List.mem_of_getElem? hx)) he) h2 (by omega) (fun j y hj hy => ?_)
        rcases Nat.lt_or_ge j i with hj' | hj'
        · have hjl : j < vs.length := by have := (List.getElem?_eq_some_iff.1 hx).1; omega
          have h4 := h3 j _ (List.getElem?_eq_getElem hjl)
          rw [h4] at hy
          obtain rfl : vs[j] = y := by simpa using hy
          exact hno j _ hj' (List.getElem?_eq_getElem hjl)
        · obtain rfl : j = i := by omega
          rw [h3 j x hx] at hy
          obtain rfl : x = y := by simpa using hy
          exact hpx
theorem srch_end {l : List Con} {n s : Nat} {p : Vis → Bool} (hp : ∀ x ∈ l, posB n x = true) (hs : s < n) : BEnd l s p (srch l n s p) :=
  bfs_end hp (BI.one l s) (VP.one hs _ _ _) (Nat.zero_le _) (by omega) (fun j y hj => by omega)

/-- every visit is reached -/
theorem BI.reach {l : List Con} {n s i : Nat} {vs : List Vis} (hp : ∀ x ∈ l, posB n x = true) (h : BI l s i vs) : ∀ (j : Nat) (x : Vis), vs[j]? = some x → Rk l x.st s x.v := by
  intro j
  induction j using Nat.strongRecOn with
  | ind j ih =>
    intro x hx
    rcases Nat.eq_zero_or_pos j with h0 | h0
    · subst h0
      obtain ⟨x0, f1, f2, f3, _⟩ := h.first
      rw [hx] at f1
      obtain rfl : x = x0 := by simpa using f1
      rw [f3, f2]
      rfl
    · obtain ⟨p, e, y, _, k2, k3, _, k5, k6, k7⟩ := h.par j x hx h0
      rw [k7]
      exact ⟨y.v, ih p k2 y k3, (nb_iff hp).1 ⟨e, k5, k6⟩⟩
/-- what is nearer than a visit has been left before it -/
theorem BI.before {l : List Con} {n s i : Nat} {vs : List Vis} (hp : ∀ x ∈ l, posB n x = true) (h : BI l s i vs) : ∀ (k u : Nat), Rk l k s u → (∀ x, vs[i]? = some x → k < x.st) → (∃ x, vs[i]? = some x) ∨ vs.length ≤ i → ∃ (j : Nat) (y : Vis), j < i ∧ vs[j]? = some y ∧ y.v = u ∧ y.st ≤ k := by
  intro k
  induction k with
  | zero =>
    intro u hu hlt hor
    obtain rfl : s = u := hu
    obtain ⟨x0, f1, f2, f3, _⟩ := h.first
    refine ⟨0, x0, ?_, f1, f2, by omega⟩
    rcases hor with ⟨x, hx⟩ | hor
    · rcases Nat.eq_zero_or_pos i with hi | hi
      · subst hi
        rw [f1] at hx
        obtain rfl : x0 = x := by simpa using hx
        have := hlt x0 f1
        omega
      · exact hi
    · have := (List.getElem?_eq_some_iff.1 f1).1
      omega
  | succ k ih =>
    intro u hu hlt hor
    obtain ⟨w, h1, h2⟩ := hu
    obtain ⟨j, y, hj, hy, hyv, hyk⟩ := ih w h1 (fun x hx => by have := hlt x hx; omega) hor
    obtain ⟨e, he, ho⟩ := (nb_iff hp).2 h2
    obtain ⟨q, z, hz, hzv, hzs⟩ := h.closed j y e hj hy (by rw [hyv]; exact he)
    refine ⟨q, z, ?_, hz, by rw [hzv, hyv, ho], by omega⟩
    rcases hor with ⟨x, hx⟩ | hor
    · rcases Nat.lt_or_ge q i with hq | hq
      · exact hq
      · have := h.mono i q x z hq hx hz
        have := hlt x hx
        omega
    · have := (List.getElem?_eq_some_iff.1 hz).1
      omega
/-- the class of a vertex: what it is connected with -/
theorem cls_iff {l : List Con} {n s u : Nat} (hp : ∀ x ∈ l, posB n x = true) (hs : s < n) : u ∈ cls l n s ↔ Conn l s u := by
  have he := srch_end (p := fun _ => false) hp hs
  unfold cls
  rcases he with ⟨i, hb, hi, _⟩ | ⟨i, vs, x, _, _, _, hf, _⟩
  · constructor
    · intro h
      obtain ⟨x, hx, rfl⟩ := List.mem_map.1 h
      obtain ⟨j, hj, rfl⟩ := List.getElem_of_mem hx
      exact ⟨_, hb.reach hp j _ (List.getElem?_eq_getElem hj)⟩
    · rintro ⟨k, hk⟩
      obtain ⟨j, y, hj, hy, hyv, _⟩ := hb.before hp k u hk (fun x hx => by
        have := (List.getElem?_eq_some_iff.1 hx).1
        omega) (.inr (by omega))
      exact List.mem_map.2 ⟨y, List.mem_of_getElem? hy, hyv⟩
  · cases hf
end Go.Proofs.YtmamajillkajoaaDoor
