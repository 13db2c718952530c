/- What is proved: the length of a chain: two more than the least distance of two marks that exclude one another: plain mathematics. -/
import Derived.Test.YtmamajillkajoaaDoorCoMix
import Derived.Test.YtmamajillkajoaaDoorCoChain
set_option linter.unusedVariables false
namespace Go.Proofs.YtmamajillkajoaaDoor
open Go.RowKit

/-- every visit but the first one comes from an earlier one, one step nearer -/
def WP (r : List Vis) : Prop := ∀ (j : Nat) (x : Vis), r[j]? = some x → (j = 0 → x.fr = -1 ∧ x.st = 0) ∧ (0 < j → ∃ (p : Nat) (y : Vis), x.fr = (p : Int) ∧ p < j ∧ r[p]? = some y ∧ x.st = y.st + 1)
theorem way_len {r : List Vis} (h : WP r) : ∀ (f j : Nat) (x : Vis), j < f → r[j]? = some x → (way r f j).length = x.st
  | 0, j, x, hj, _ => by omega
  | f + 1, j, x, hj, hx => by
    rw [way, hx]
    dsimp only
    obtain ⟨h0, h1⟩ := h j x hx
    rcases Nat.eq_zero_or_pos j with hz | hz
    · obtain ⟨e1, e2⟩ := h0 hz
      rw [e1, e2, if_pos (by decide)]
      rfl
    · obtain ⟨p, y, e1, e2, e3, e4⟩ := h1 hz
      rw [e1, if_neg (by omega), List.length_cons, Int.toNat_natCast, way_len h f p y (by omega) e3, e4]
theorem BI.wp {l : List Con} {s i : Nat} {vs : List Vis} (h : BI l s i vs) (k : Nat) : WP (vs.take k) := fun j x hx => by
  have hx0 := hx
  rw [List.getElem?_take] at hx
  split at hx
  · rename_i hjk
    refine ⟨fun hz => ?_, fun hz => ?_⟩
    · subst hz
      obtain ⟨x0, f1, f2, f3, f4⟩ := h.first
      rw [hx] at f1
      obtain rfl : x = x0 := by simpa using f1
      exact ⟨f4, f3⟩
    · obtain ⟨p, e, y, k1, k2, k3, _, _, _, k7⟩ := h.par j x hx hz
      exact ⟨p, y, k1, k2, by rw [List.getElem?_take, if_pos (by omega)]; exact k3, k7⟩
  · cases hx

/-- a mark is so many equalities from one that it excludes -/
def Dist (l : List Con) (m d : Nat) : Prop := ∃ v q, Rk l d (vertAt l m) v ∧ q ∈ mrk l v l.length ∧ exclB (markAt l m) (markAt l q) = true
theorem hit_none {l : List Con} {m v q : Nat} (h : hit l m v = none) (hq : q ∈ mrk l v l.length) : exclB (markAt l m) (markAt l q) = false := by
  unfold hit at h
  have := List.find?_eq_none.1 h q hq
  simpa using this
theorem hit_some {l : List Con} {m v q : Nat} (h : hit l m v = some q) : q ∈ mrk l v l.length ∧ exclB (markAt l m) (markAt l q) = true := by
  unfold hit at h
  exact ⟨List.mem_of_find?_eq_some h, List.find?_some (p := fun i => exclB (markAt l m) (markAt l i)) h⟩
theorem stp_no {l : List Con} {m lim : Nat} {x : Vis} (h : stp l m lim x = false) : hit l m x.v = none := by
  rw [stp_eq, Bool.or_eq_false_iff] at h
  cases hh : hit l m x.v with
  | none => rfl
  | some q => rw [hh] at h; cases h.2
theorem frm_spec {l : List Con} {n m lim : Nat} (hp : ∀ x ∈ l, posB n x = true) (hv : vertAt l m < n) :
    (∀ c, frm l n m lim = some c → ∃ d, c.length = d + 2 ∧ Dist l m d ∧ (∀ d', Dist l m d' → d ≤ d') ∧ (0 < lim → d + 2 < lim)) ∧ (frm l n m lim = none → ∀ d, Dist l m d → 0 < lim ∧ lim ≤ d + 2) := by
  obtain ⟨r, hr⟩ : ∃ r, srch l n (vertAt l m) (stp l m lim) = r := ⟨_, rfl⟩
  have hE := srch_end (p := stp l m lim) hp hv
  rw [hr] at hE
  rcases hE with ⟨i, hb, hi, hno⟩ | ⟨i, vs, x, hb, hrv, hx, hpx, hno⟩
  · refine ⟨fun c hc => (by rw [frm_none hr hno] at hc; cases hc), fun _ d hd => ?_⟩
    obtain ⟨v, q, h1, h2, h3⟩ := hd
    obtain ⟨j, y, _, hy, hyv, _⟩ := hb.before hp d v h1 (fun x hx => by have := (List.getElem?_eq_some_iff.1 hx).1; omega) (.inr (by omega))
    have h4 := stp_no (hno y (List.mem_of_getElem? hy))
    rw [hyv] at h4
    rw [hit_none h4 h2] at h3
    cases h3
  · have hil : i < vs.length := (List.getElem?_eq_some_iff.1 hx).1
    have hlen : r.length = i + 1 := by rw [hrv, List.length_take]; omega
    have hri : r[i]? = some x := by rw [hrv, List.getElem?_take, if_pos (by omega)]; exact hx
    have hlast : r.getLast? = some x := by rw [List.getLast?_eq_getElem?, hlen]; exact hri
    have hmin : ∀ d, Dist l m d → x.st ≤ d := fun d hd => by
      rcases Nat.lt_or_ge d x.st with hlt | hge
      · exfalso
        obtain ⟨v, q, h1, h2, h3⟩ := hd
        obtain ⟨j, y, hj, hy, hyv, _⟩ := hb.before hp d v h1 (fun z hz => by
          rw [hx] at hz
          obtain rfl : x = z := by simpa using hz
          exact hlt) (.inl ⟨x, hx⟩)
        have h4 := stp_no (hno j y hj hy)
        rw [hyv] at h4
        rw [hit_none h4 h2] at h3
        cases h3
      · exact hge
    have hf := frm_eq hr
    rw [hlast] at hf
    dsimp only at hf
    cases hlm : lmB lim x with
    | true =>
      rw [hlm, if_pos rfl] at hf
      refine ⟨fun c hc => (by rw [hf] at hc; cases hc), fun _ d hd => ?_⟩
      have := hmin d hd
      unfold lmB at hlm
      simp at hlm
      omega
    | false =>
      rw [hlm, if_neg (by decide)] at hf
      rw [stp_eq, hlm, Bool.false_or] at hpx
      cases hh : hit l m x.v with
      | none => rw [hh] at hpx; cases hpx
      | some q =>
        rw [hh] at hf
        dsimp only at hf
        refine ⟨fun c hc => ?_, fun h => (by rw [h] at hf; cases hf)⟩
        rw [hf] at hc
        have hw := way_len (r := r) (by rw [hrv]; exact hb.wp _) r.length (r.length - 1) x (by omega) (by rw [hlen]; exact hri)
        obtain ⟨h1, h2⟩ := hit_some hh
        refine ⟨x.st, ?_, ⟨x.v, q, hb.reach hp i x hx, h1, h2⟩, hmin, fun h0 => ?_⟩
        · have := Option.some.inj hc
          rw [← this]
          simp [hw]
        · unfold lmB at hlm
          simp at hlm
          have := hlm h0
          omega
theorem chn_spec {l : List Con} {n : Nat} (hp : ∀ x ∈ l, posB n x = true) : ∀ (ms best : List Nat), (∀ m ∈ ms, vertAt l m < n) →
    ((chn l n ms best).length = best.length ∨ ∃ m ∈ ms, ∃ d, (chn l n ms best).length = d + 2 ∧ Dist l m d) ∧ (∀ m ∈ ms, ∀ d, Dist l m d → 0 < (chn l n ms best).length ∧ (chn l n ms best).length ≤ d + 2) ∧ (0 < best.length → 0 < (chn l n ms best).length ∧ (chn l n ms best).length ≤ best.length)
  | [], best, _ => ⟨.inl rfl, fun m hm => by simp at hm, fun h => ⟨h, Nat.le_refl _⟩⟩
  | m :: ms, best, hv => by
    obtain ⟨f1, f2⟩ := frm_spec (lim := best.length) hp (hv m (List.mem_cons_self ..))
    have ih := fun b => chn_spec hp ms b (fun k hk => hv k (List.mem_cons_of_mem _ hk))
    rw [chn]
    cases hf : frm l n m best.length with
    | none =>
      obtain ⟨i1, i2, i3⟩ := ih best
      refine ⟨?_, fun k hk d hd => ?_, i3⟩
      · rcases i1 with i1 | ⟨k, hk, i1⟩
        · exact .inl i1
        · exact .inr ⟨k, List.mem_cons_of_mem _ hk, i1⟩
      · rcases List.mem_cons.1 hk with rfl | hk
        · obtain ⟨g1, g2⟩ := f2 hf d hd
          obtain ⟨g3, g4⟩ := i3 g1
          exact ⟨g3, by dsimp only at g4 ⊢; omega⟩
        · exact i2 k hk d hd
    | some c =>
      obtain ⟨d0, e1, e2, e3, e4⟩ := f1 c hf
      obtain ⟨i1, i2, i3⟩ := ih c
      obtain ⟨j1, j2⟩ := i3 (by omega)
      dsimp only at *
      refine ⟨.inr ?_, fun k hk d hd => ?_, fun h0 => ⟨j1, by have := e4 h0; omega⟩⟩
      · rcases i1 with i1 | ⟨k, hk, i1⟩
        · exact ⟨m, List.mem_cons_self .., d0, by omega, e2⟩
        · exact ⟨k, List.mem_cons_of_mem _ hk, i1⟩
      · rcases List.mem_cons.1 hk with rfl | hk
        · have := e3 d hd
          exact ⟨j1, by omega⟩
        · exact i2 k hk d hd

/-- two marks of a class that exclude one another are so many equalities from one another -/
def Far (l : List Con) (r d : Nat) : Prop := ∃ u v t1 t2, Conn l r u ∧ Mk l u t1 ∧ Mk l v t2 ∧ Rk l d u v ∧ exclB t1 t2 = true
theorem Far.sub {l l' : List Con} (h : Sub l l') {r d : Nat} : Far l r d → Far l' r d := by
  rintro ⟨u, v, t1, t2, h1, h2, h3, h4, h5⟩
  exact ⟨u, v, t1, t2, h1.sub h, h2.sub h, h3.sub h, h4.sub h, h5⟩
theorem vert_eq {l : List Con} {v m : Nat} (h : m ∈ mrk l v l.length) : vertAt l m = v := by
  obtain ⟨_, c, h1, _, h3⟩ := mrk_mem h
  unfold vertAt
  rw [h1]
  dsimp only
  omega
theorem chain_spec {l : List Con} {n r : Nat} (hp : ∀ x ∈ l, posB n x = true) (hr : r < n) :
    ((chain l n (cls l n r)).length = 0 ∨ ∃ d, (chain l n (cls l n r)).length = d + 2 ∧ Far l r d) ∧ (∀ d, Far l r d → 0 < (chain l n (cls l n r)).length ∧ (chain l n (cls l n r)).length ≤ d + 2) := by
  have hok := (cls_ok hp hr).1
  have hv : ∀ m ∈ mks l (cls l n r), vertAt l m < n := fun m hm => by
    obtain ⟨v, h1, h2⟩ := mks_iff.1 hm
    rw [vert_eq h2]
    exact hok v h1
  obtain ⟨c1, c2, _⟩ := chn_spec hp (mks l (cls l n r)) [] hv
  have hD : ∀ d, (∃ m ∈ mks l (cls l n r), Dist l m d) ↔ Far l r d := fun d => by
    constructor
    · rintro ⟨m, hm, v, q, h1, h2, h3⟩
      obtain ⟨u, g1, g2⟩ := mks_iff.1 hm
      rw [vert_eq g2] at h1
      exact ⟨u, v, _, _, (cls_iff hp hr).1 g1, (mk_iff hp).1 ⟨m, g2, rfl⟩, (mk_iff hp).1 ⟨q, h2, rfl⟩, h1, h3⟩
    · rintro ⟨u, v, t1, t2, h1, h2, h3, h4, h5⟩
      obtain ⟨m, g1, rfl⟩ := (mk_iff hp).2 h2
      obtain ⟨q, g3, rfl⟩ := (mk_iff hp).2 h3
      exact ⟨m, mks_iff.2 ⟨u, (cls_iff hp hr).2 h1, g1⟩, v, q, by rw [vert_eq g1]; exact h4, g3, h5⟩
  refine ⟨?_, fun d hd => ?_⟩
  · rcases c1 with c1 | ⟨m, hm, d, e1, e2⟩
    · exact .inl c1
    · exact .inr ⟨d, e1, (hD d).1 ⟨m, hm, e2⟩⟩
  · obtain ⟨m, hm, h⟩ := (hD d).2 hd
    exact c2 m hm d h
theorem chain_same {l l' : List Con} {n r : Nat} (hp : ∀ x ∈ l, posB n x = true) (hp' : ∀ x ∈ l', posB n x = true) (hr : r < n) (h : Sub l l') (h' : Sub l' l) : (chain l n (cls l n r)).length = (chain l' n (cls l' n r)).length := by
  obtain ⟨a1, a2⟩ := chain_spec hp hr
  obtain ⟨b1, b2⟩ := chain_spec hp' hr
  rcases a1 with a1 | ⟨d, a1, a3⟩ <;> rcases b1 with b1 | ⟨e, b1, b3⟩
  · omega
  · have := a2 e (b3.sub h'); omega
  · have := b2 d (a3.sub h); omega
  · have := a2 e (b3.sub h')
    have := b2 d (a3.sub h)
    omega
/-- the chains have the same lengths -/
theorem slvC_same {l l' : List Con} {n : Nat} (hp : ∀ x ∈ l, posB n x = true) (hp' : ∀ x ∈ l', posB n x = true) (h : Sub l l') (h' : Sub l' l) : (slvC l n).map List.length = (slvC l' n).map List.length := by
  obtain ⟨rs, h1, h2, h3⟩ := clss_pair hp hp' h h' n (Nat.le_refl _)
  unfold slvC
  rw [h2, h3]
  clear h2 h3
  induction rs with
  | nil => rfl
  | cons r rs ih =>
    have hr := h1 r (List.mem_cons_self ..)
    have ih := ih (fun x hx => h1 x (List.mem_cons_of_mem _ hx))
    rw [List.map_cons, List.map_cons, List.filter_cons, List.filter_cons, ← typ_same hp hp' hr h h']
    cases (typ l (cls l n r)).2 with
    | true => exact ih
    | false =>
      simp only [Bool.not_false, if_true, List.map_cons]
      rw [chain_same hp hp' hr h h', ih]
/-- the vertices have the same types -/
theorem tyL_same {l l' : List Con} {n : Nat} (hp : ∀ x ∈ l, posB n x = true) (hp' : ∀ x ∈ l', posB n x = true) (h : Sub l l') (h' : Sub l' l) (v : Nat) : tyL l (clss l n n) v = tyL l' (clss l' n n) v := by
  obtain ⟨rs, h1, h2, h3⟩ := clss_pair hp hp' h h' n (Nat.le_refl _)
  rw [h2, h3]
  have key : ∀ qs : List Nat, (∀ r ∈ qs, r < n) → (match (qs.map (cls l n)).find? (fun c => c.contains v) with | some c => (typ l c).1 | none => noT) = (match (qs.map (cls l' n)).find? (fun c => c.contains v) with | some c => (typ l' c).1 | none => noT) := by
    intro qs
    induction qs with
    | nil => intro _; rfl
    | cons r rs ih =>
      intro hq
      have hr := hq r (List.mem_cons_self ..)
      have e : (cls l n r).contains v = (cls l' n r).contains v := by
        rw [Bool.eq_iff_iff, List.contains_iff_mem, List.contains_iff_mem]
        exact ⟨cls_sub hp hp' h hr, cls_sub hp' hp h' hr⟩
      rw [List.map_cons, List.map_cons, List.find?_cons, List.find?_cons, ← e]
      cases (cls l n r).contains v with
      | true => dsimp only; rw [typ_same hp hp' hr h h']
      | false => exact ih (fun x hx => hq x (List.mem_cons_of_mem _ hx))
  unfold tyL
  rw [← List.map_reverse, ← List.map_reverse]
  exact key rs.reverse (fun r hr => h1 r (List.mem_reverse.1 hr))
end Go.Proofs.YtmamajillkajoaaDoor
