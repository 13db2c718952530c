/- What is proved: the constraints of a chain alone are in conflict, with one chain as long: plain mathematics. -/
import Derived.Test.YtmamajillkajoaaDoorCoIsCh
set_option linter.unusedVariables false
namespace Go.Proofs.YtmamajillkajoaaDoor
open Go.RowKit

/-- the constraints of a chain -/
def alone (l : List Con) (ch : List Nat) : List Con := ch.filterMap (fun i => l[i]?)
theorem alone_sub (l : List Con) (ch : List Nat) : Sub (alone l ch) l := fun c hc => by
  obtain ⟨i, _, h⟩ := List.mem_filterMap.1 hc
  exact List.mem_of_getElem? h
theorem alone_in {l : List Con} {ch : List Nat} {i : Nat} {c : Con} (hi : i ∈ ch) (h : l[i]? = some c) : c ∈ alone l ch := List.mem_filterMap.2 ⟨i, hi, h⟩
theorem adj_of {l : List Con} {c : Con} {u v : Nat} (hc : c ∈ l) (hk : c.kind = 1) (h : c.a = (u : Int) ∧ c.b = (v : Int) ∨ c.b = (u : Int) ∧ c.a = (v : Int)) : Adj l u v := by
  obtain ⟨k, hk'⟩ := List.getElem?_of_mem hc
  exact ⟨k, c, hk', by rw [hk]; rfl, h⟩
theorem mk_of {l : List Con} {c : Con} {v : Nat} (hc : c ∈ l) (hk : c.kind = 0) (ha : c.a = (v : Int)) : Mk l v c.mark := by
  obtain ⟨k, hk'⟩ := List.getElem?_of_mem hc
  exact ⟨k, c, hk', by rw [hk]; rfl, ha, rfl⟩
theorem wlk_rk {l l2 : List Con} {n : Nat} (hp : ∀ x ∈ l, posB n x = true) : ∀ (es : List Nat) (a : Nat) (b : Int), wlk l (a : Int) es = some b → (∀ i ∈ es, ∀ c, l[i]? = some c → c ∈ l2) → ∃ b' : Nat, b = (b' : Int) ∧ Rk l2 es.length a b'
  | [], a, b, h, _ => by
    have : (a : Int) = b := by simpa [wlk] using h
    exact ⟨a, this.symm, rfl⟩
  | i :: is, a, b, h, hin => by
    obtain ⟨c, h1, h2, h3⟩ := wlk_step h
    have hc := hin i (List.mem_cons_self ..) c h1
    have hin' : ∀ j ∈ is, ∀ c, l[j]? = some c → c ∈ l2 := fun j hj => hin j (List.mem_cons_of_mem _ hj)
    have hpc := pos_cases (hp c (List.mem_of_getElem? h1))
    rcases h3 with ⟨e1, e2⟩ | ⟨_, e1, e2⟩
    · obtain ⟨u, hu⟩ : ∃ u : Nat, c.b = (u : Int) := ⟨c.b.toNat, by rcases hpc.2 with ⟨k0, _⟩ | ⟨_, k1, _⟩ <;> omega⟩
      rw [hu] at e2
      obtain ⟨b', g1, g2⟩ := wlk_rk hp is u b e2 hin'
      exact ⟨b', g1, Rk.head (adj_of hc h2 (.inl ⟨e1, hu⟩)) g2⟩
    · obtain ⟨u, hu⟩ : ∃ u : Nat, c.a = (u : Int) := ⟨c.a.toNat, by have := hpc.1; omega⟩
      rw [hu] at e2
      obtain ⟨b', g1, g2⟩ := wlk_rk hp is u b e2 hin'
      exact ⟨b', g1, Rk.head (adj_of hc h2 (.inr ⟨e1, hu⟩)) g2⟩
theorem wlk_kinds {l : List Con} : ∀ {es : List Nat} {a b : Int}, wlk l a es = some b → ∀ i ∈ es, ∀ c, l[i]? = some c → c.kind = 1
  | [], _, _, _, i, hi => by simp at hi
  | j :: js, a, b, h, i, hi => fun c hc => by
    obtain ⟨x, h1, h2, h3⟩ := wlk_step h
    rcases List.mem_cons.1 hi with rfl | hi
    · rw [h1] at hc
      obtain rfl : x = c := by simpa using hc
      exact h2
    · rcases h3 with ⟨_, h3⟩ | ⟨_, _, h3⟩ <;> exact wlk_kinds h3 i hi c hc

/-- one class holds a vertex -/
theorem clss_one {l : List Con} {n : Nat} (hp : ∀ x ∈ l, posB n x = true) (u : Nat) : ∀ k, k ≤ n → (clss l n k).filter (fun c => c.contains u) = [] ∨ ∃ r, r < n ∧ Conn l r u ∧ (clss l n k).filter (fun c => c.contains u) = [cls l n r]
  | 0, _ => .inl rfl
  | k + 1, hk => by
    have ih := clss_one hp u k (by omega)
    rw [clss_succ]
    cases ha : (clss l n k).any (fun c => c.contains k) with
    | true => rw [if_pos rfl]; exact ih
    | false =>
      rw [if_neg (by decide), List.filter_append]
      cases hc : (cls l n k).contains u with
      | false =>
        have e : [cls l n k].filter (fun c => c.contains u) = [] := by rw [List.filter_cons, hc]; rfl
        rw [e, List.append_nil]
        exact ih
      | true =>
        have e : [cls l n k].filter (fun c => c.contains u) = [cls l n k] := by rw [List.filter_cons, hc]; rfl
        have hku : Conn l k u := (cls_iff hp (by omega)).1 (List.contains_iff_mem.1 hc)
        rw [e]
        rcases ih with ih | ⟨r, hr, hru, ih⟩
        · rw [ih]
          exact .inr ⟨k, by omega, hku, rfl⟩
        · exfalso
          have hm : cls l n r ∈ clss l n k := (List.mem_filter.1 (by rw [ih]; simp : cls l n r ∈ (clss l n k).filter (fun c => c.contains u))).1
          have := List.any_eq_false.1 ha _ hm
          exact this (List.contains_iff_mem.2 ((cls_iff hp hr).2 (hru.trans hku.symm)))
theorem alone_chain {l : List Con} {n r0 : Nat} (hp : ∀ x ∈ l, posB n x = true) (hr0 : r0 < n) {ch : List Nat} {m q : Nat} {es : List Nat} (hch : ch = chain l n (cls l n r0)) (h : ChOk l ch m q es) (hcn : Conn l r0 (vertAt l m)) :
    (∀ x ∈ alone l ch, posB n x = true) ∧ ∃ x, slvC (alone l ch) n = [x] ∧ x.length = ch.length := by
  obtain ⟨cm, cq, hI, hva⟩ := h.isCh
  have hs := alone_sub l ch
  have hp2 : ∀ x ∈ alone l ch, posB n x = true := fun x hx => hp x (hs x hx)
  refine ⟨hp2, ?_⟩
  have hlen : ch.length = es.length + 2 := by rw [h.form]; simp
  have hmi : m ∈ ch := by rw [h.form]; simp
  have hqi : q ∈ ch := by rw [h.form]; simp
  have hcm := alone_in hmi hI.gm
  have hcq := alone_in hqi hI.gq
  obtain ⟨v', hv', hrk⟩ := wlk_rk (l2 := alone l ch) hp es (vertAt l m) _ h.leads (fun i hi c hc => alone_in (by rw [h.form]; simp [hi]) hc)
  obtain rfl : vertAt l q = v' := by omega
  have hvq : cq.a = (vertAt l q : Int) := by
    have := hI.leads
    rw [hva, h.leads] at this
    exact (Option.some.inj this).symm
  have hM1 : Mk (alone l ch) (vertAt l m) cm.mark := mk_of hcm hI.km hva
  have hM2 : Mk (alone l ch) (vertAt l q) cq.mark := mk_of hcq hI.kq hvq
  have hum : vertAt l m < n := by
    have := (pos_cases (hp cm (List.mem_of_getElem? hI.gm))).1
    omega
  -- every mark's vertex is one of the two
  have hMk : ∀ v t, Mk (alone l ch) v t → Conn (alone l ch) v (vertAt l m) := by
    rintro v t ⟨k, c, h1, h2, h3, _⟩
    obtain ⟨i, hi, hc⟩ := List.mem_filterMap.1 (List.mem_of_getElem? h1)
    rw [h.form] at hi
    rcases List.mem_cons.1 hi with rfl | hi
    · rw [hI.gm] at hc
      obtain rfl : cm = c := by simpa using hc
      have : v = vertAt l i := by omega
      rw [this]; exact Conn.refl _ _
    · rcases List.mem_append.1 hi with hi | hi
      · have := wlk_kinds h.leads i hi c hc
        rw [this] at h2; cases h2
      · obtain rfl : i = q := by simpa using hi
        rw [hI.gq] at hc
        obtain rfl : cq = c := by simpa using hc
        have : v = vertAt l i := by omega
        rw [this]; exact Conn.symm ⟨_, hrk⟩
  have hFar : ∀ r, Conn (alone l ch) r (vertAt l m) → Far (alone l ch) r es.length := fun r hr => ⟨_, _, _, _, hr, hM1, hM2, hrk, hI.excl⟩
  have hty : ∀ c ∈ clss (alone l ch) n n, (!(typ (alone l ch) c).2) = c.contains (vertAt l m) := by
    intro c hc
    obtain ⟨r, hr, rfl⟩ := clss_cls hp2 hc
    rw [Bool.eq_iff_iff, List.contains_iff_mem, cls_iff hp2 hr]
    constructor
    · intro ht
      have ht' : (typ (alone l ch) (cls (alone l ch) n r)).2 = false := by simpa using ht
      unfold typ at ht'
      cases hcm' : cmn (alone l ch) (mks (alone l ch) (cls (alone l ch) n r)) noT with
      | some t => rw [hcm'] at ht'; cases ht'
      | none =>
        obtain ⟨x, y, ⟨u, u1, u2⟩, _⟩ := (cmn_cls hp2 hr).1 hcm'
        exact u1.trans (hMk u x u2)
    · intro hr'
      rw [typ_conflict hp2 hr (hFar r hr')]
      rfl
  have hfl : (clss (alone l ch) n n).filter (fun c => !(typ (alone l ch) c).2) = (clss (alone l ch) n n).filter (fun c => c.contains (vertAt l m)) := List.filter_congr hty
  obtain ⟨r1, hr1, hc1, hcn1⟩ := clss_has hp2 n (Nat.le_refl _) hum
  rcases clss_one hp2 (vertAt l m) n (Nat.le_refl _) with hnil | ⟨r, hr, hcr, hone⟩
  · exfalso
    have : cls (alone l ch) n r1 ∈ (clss (alone l ch) n n).filter (fun c => c.contains (vertAt l m)) := List.mem_filter.2 ⟨hc1, List.contains_iff_mem.2 ((cls_iff hp2 hr1).2 hcn1)⟩
    rw [hnil] at this
    simp at this
  · refine ⟨chain (alone l ch) n (cls (alone l ch) n r), ?_, ?_⟩
    · unfold slvC
      rw [hfl, hone]
      rfl
    · obtain ⟨a1, a2⟩ := chain_spec hp2 hr
      have a3 := a2 _ (hFar r hcr)
      rcases a1 with a1 | ⟨d, a1, a4⟩
      · omega
      · obtain ⟨u, v, t1, t2, f1, f2, f3, f4, f5⟩ := a4.sub hs
        have hF0 : Far l r0 d := ⟨u, v, t1, t2, (hcn.trans (hcr.sub hs).symm).trans f1, f2, f3, f4, f5⟩
        have := ((chain_spec hp hr0).2 d hF0).2
        rw [← hch] at this
        omega
end Go.Proofs.YtmamajillkajoaaDoor
