/- What is proved: a chain is one: it begins and ends with marks that exclude one another, the first one before the last, and its equalities lead from one to the other: plain mathematics. -/
import Derived.Test.YtmamajillkajoaaDoorCoMix2
set_option linter.unusedVariables false
namespace Go.Proofs.YtmamajillkajoaaDoor
open Go.RowKit

/-- where equalities lead -/
def wlk (l : List Con) (a : Int) : List Nat → Option Int
  | [] => some a
  | i :: is => match l[i]? with
    | none => none
    | some c => if c.kind == 1 then (if c.a == a then wlk l c.b is else if c.b == a then wlk l c.a is else none) else none
theorem wlk_append (l : List Con) : ∀ (is js : List Nat) (a b : Int), wlk l a is = some b → wlk l a (is ++ js) = wlk l b js
  | [], js, a, b, h => by
    have : a = b := by simpa [wlk] using h
    rw [this]; rfl
  | i :: is, js, a, b, h => by
    rw [List.cons_append, wlk]
    rw [wlk] at h
    cases hc : l[i]? with
    | none => rw [hc] at h; cases h
    | some c =>
      rw [hc] at h
      dsimp only at h ⊢
      cases h1 : (c.kind == 1) with
      | false => rw [h1] at h; cases h
      | true =>
        rw [h1, if_pos rfl] at h
        rw [if_pos rfl]
        cases h2 : (c.a == a) with
        | true =>
          rw [h2, if_pos rfl] at h
          rw [if_pos rfl]
          exact wlk_append l is js _ b h
        | false =>
          rw [h2, if_neg (by decide)] at h
          rw [if_neg (by decide)]
          cases h3 : (c.b == a) with
          | true =>
            rw [h3, if_pos rfl] at h
            rw [if_pos rfl]
            exact wlk_append l is js _ b h
          | false => rw [h3] at h; cases h

/-- visits with the equalities by which they came -/
def WE (l : List Con) (s : Nat) (r : List Vis) : Prop := ∀ (j : Nat) (x : Vis), r[j]? = some x → (j = 0 → x.fr = -1 ∧ x.v = s) ∧ (0 < j → ∃ (p e : Nat) (y : Vis), x.fr = (p : Int) ∧ p < j ∧ r[p]? = some y ∧ x.by_ = (e : Int) ∧ e ∈ eqs l y.v l.length ∧ oth l e y.v = x.v)
theorem BI.we {l : List Con} {s i : Nat} {vs : List Vis} (h : BI l s i vs) (k : Nat) : WE l s (vs.take k) := fun j x hx => by
  rw [List.getElem?_take] at hx
  split at hx
  · rename_i hjk
    refine ⟨fun hz => ?_, fun hz => ?_⟩
    · subst hz
      obtain ⟨x0, f1, f2, f3, f4⟩ := h.first
      rw [hx] at f1
      obtain rfl : x = x0 := by simpa using f1
      exact ⟨f4, f2⟩
    · obtain ⟨p, e, y, k1, k2, k3, k4, k5, k6, _⟩ := h.par j x hx hz
      exact ⟨p, e, y, k1, k2, by rw [List.getElem?_take, if_pos (by omega)]; exact k3, k4, k5, k6⟩
  · cases hx
theorem way_leads {l : List Con} {n s : Nat} {r : List Vis} (hp : ∀ x ∈ l, posB n x = true) (h : WE l s r) : ∀ (f j : Nat) (x : Vis), j < f → r[j]? = some x → wlk l (s : Int) (way r f j).reverse = some (x.v : Int)
  | 0, j, x, hj, _ => by omega
  | f + 1, j, x, hj, hx => by
    rw [way, hx]
    dsimp only
    obtain ⟨h0, h1⟩ := h j x hx
    rcases Nat.eq_zero_or_pos j with hz | hz
    · obtain ⟨e1, e2⟩ := h0 hz
      rw [e1, if_pos (by decide), e2]
      rfl
    · obtain ⟨p, e, y, e1, e2, e3, e4, e5, e6⟩ := h1 hz
      rw [e1, if_neg (by omega), List.reverse_cons, Int.toNat_natCast, wlk_append l _ _ _ _ (way_leads hp h f p y (by omega) e3), e4, Int.toNat_natCast]
      obtain ⟨_, c, hc, hk, hab⟩ := eqs_mem e5
      have hpc := pos_cases (hp c (List.mem_of_getElem? hc))
      unfold oth at e6
      rw [hc] at e6
      dsimp only at e6
      rw [wlk, hc]
      dsimp only
      rcases hpc.2 with ⟨k0, _⟩ | ⟨k1, b1, b2⟩
      · rw [k0] at hk; simp at hk
      · rw [k1, show ((1 : Int) == 1) = true from rfl, if_pos rfl]
        have ha := hpc.1
        by_cases hay : c.a = (y.v : Int)
        · rw [if_pos (by simpa using hay)]
          show some c.b = _
          congr 1
          omega
        · have hby : c.b = (y.v : Int) := hab.resolve_left hay
          rw [if_neg (by simpa using hay), if_pos (by simpa using hby)]
          show some c.a = _
          congr 1
          omega
/-- a chain that begins with a mark -/
theorem frm_form {l : List Con} {n m lim : Nat} {c : List Nat} (hp : ∀ x ∈ l, posB n x = true) (hv : vertAt l m < n) (h : frm l n m lim = some c) :
    ∃ (es : List Nat) (q d : Nat), c = m :: (es ++ [q]) ∧ es.length = d ∧ q ∈ mrk l (vertAt l q) l.length ∧ Rk l d (vertAt l m) (vertAt l q) ∧ exclB (markAt l m) (markAt l q) = true ∧ wlk l (vertAt l m : Int) es = some (vertAt l q : Int) := by
  obtain ⟨r, hr⟩ : ∃ r, srch l n (vertAt l m) (stp l m lim) = r := ⟨_, rfl⟩
  have hE := srch_end (p := stp l m lim) hp hv
  rw [hr] at hE
  rcases hE with ⟨i, hb, hi, hno⟩ | ⟨i, vs, x, hb, hrv, hx, hpx, hno⟩
  · rw [frm_none hr hno] at h; cases h
  · have hil : i < vs.length := (List.getElem?_eq_some_iff.1 hx).1
    have hlen : r.length = i + 1 := by rw [hrv, List.length_take]; omega
    have hri : r[i]? = some x := by rw [hrv, List.getElem?_take, if_pos (by omega)]; exact hx
    have hlast : r.getLast? = some x := by rw [List.getLast?_eq_getElem?, hlen]; exact hri
    have hf := frm_eq hr
    rw [hlast] at hf
    dsimp only at hf
    cases hlm : lmB lim x with
    | true => rw [hlm, if_pos rfl, h] at hf; cases hf
    | false =>
      rw [hlm, if_neg (by decide)] at hf
      cases hh : hit l m x.v with
      | none => rw [hh, h] at hf; cases hf
      | some q =>
        rw [hh, h] at hf
        dsimp only at hf
        obtain ⟨h1, h2⟩ := hit_some hh
        have hq := vert_eq h1
        refine ⟨(way r r.length (r.length - 1)).reverse, q, x.st, ?_, ?_, by rw [hq]; exact h1, by rw [hq]; exact hb.reach hp i x hx, h2, ?_⟩
        · have := Option.some.inj hf
          rw [this]
          simp
        · rw [List.length_reverse]
          exact way_len (r := r) (by rw [hrv]; exact hb.wp _) r.length (r.length - 1) x (by omega) (by rw [hlen]; exact hri)
        · rw [hq]
          exact way_leads (r := r) hp (by rw [hrv]; exact hb.we _) r.length (r.length - 1) x (by omega) (by rw [hlen]; exact hri)
theorem chn_form (l : List Con) (n : Nat) : ∀ (ms best : List Nat), chn l n ms best = best ∨ ∃ pre m post c, ms = pre ++ m :: post ∧ frm l n m (chn l n pre best).length = some c ∧ chn l n ms best = c
  | [], best => .inl rfl
  | m :: ms, best => by
    rw [chn]
    cases hf : frm l n m best.length with
    | none =>
      dsimp only
      rcases chn_form l n ms best with h | ⟨pre, k, post, c, h1, h2, h3⟩
      · exact .inl h
      · refine .inr ⟨m :: pre, k, post, c, by rw [h1]; rfl, ?_, h3⟩
        rw [chn, hf]
        exact h2
    | some c0 =>
      dsimp only
      rcases chn_form l n ms c0 with h | ⟨pre, k, post, c, h1, h2, h3⟩
      · exact .inr ⟨[], m, ms, c0, rfl, hf, h⟩
      · refine .inr ⟨m :: pre, k, post, c, by rw [h1]; rfl, ?_, h3⟩
        rw [chn, hf]
        exact h2
/-- what a chain is -/
structure ChOk (l : List Con) (ch : List Nat) (m q : Nat) (es : List Nat) : Prop where
  form : ch = m :: (es ++ [q])
  lt : m < q
  m_in : m ∈ mrk l (vertAt l m) l.length
  q_in : q ∈ mrk l (vertAt l q) l.length
  excl : exclB (markAt l m) (markAt l q) = true
  leads : wlk l (vertAt l m : Int) es = some (vertAt l q : Int)
  rk : Rk l es.length (vertAt l m) (vertAt l q)
theorem chain_form {l : List Con} {n r : Nat} (hp : ∀ x ∈ l, posB n x = true) (hr : r < n) (h0 : 0 < (chain l n (cls l n r)).length) : ∃ m q es, ChOk l (chain l n (cls l n r)) m q es ∧ Conn l r (vertAt l m) := by
  have hok := (cls_ok hp hr).1
  have hv : ∀ m ∈ mks l (cls l n r), vertAt l m < n := fun m hm => by
    obtain ⟨v, h1, h2⟩ := mks_iff.1 hm
    rw [vert_eq h2]
    exact hok v h1
  rcases chn_form l n (mks l (cls l n r)) [] with h | ⟨pre, m, post, c, h1, h2, h3⟩
  · unfold chain at h0
    rw [h] at h0
    simp at h0
  · have hm : m ∈ mks l (cls l n r) := by rw [h1]; simp
    obtain ⟨u, g1, g2⟩ := mks_iff.1 hm
    have hu := vert_eq g2
    obtain ⟨es, q, d, f1, f2, f3, f4, f5, f6⟩ := frm_form hp (hv m hm) h2
    have hpre := (chn_spec hp pre [] (fun k hk => hv k (by rw [h1]; exact List.mem_append.2 (.inl hk)))).2.1
    obtain ⟨d0, e1, _, _, e4⟩ := (frm_spec hp (hv m hm)).1 c h2
    have hd0 : d0 = d := by rw [f1] at e1; simp at e1; omega
    have hDq : Dist l q d := ⟨vertAt l m, m, f4.symm, by rw [hu]; exact g2, by rw [exclB_symm]; exact f5⟩
    have hq : q ∈ mks l (cls l n r) := mks_iff.2 ⟨vertAt l q, (cls_iff hp hr).2 (((cls_iff hp hr).1 g1).trans (by rw [← hu]; exact ⟨d, f4⟩)), f3⟩
    have hch : chain l n (cls l n r) = c := h3
    have hs : (pre ++ m :: post).Pairwise (· ≤ ·) := by rw [← h1]; exact srt_sorted _
    have hlt : m < q := by
      rw [h1] at hq
      rcases List.mem_append.1 hq with hq | hq
      · obtain ⟨k1, k2⟩ := hpre q hq d hDq
        have := e4 k1
        omega
      · rcases List.mem_cons.1 hq with rfl | hq
        · rw [exclB_self] at f5; cases f5
        · have hle : m ≤ q := (List.pairwise_cons.1 (List.pairwise_append.1 hs).2.1).1 q hq
          rcases Nat.lt_or_ge m q with h | h
          · exact h
          · have : m = q := by omega
            rw [this, exclB_self] at f5; cases f5
    refine ⟨m, q, es, ⟨by rw [hch]; exact f1, hlt, by rw [hu]; exact g2, f3, f5, f6, by rw [f2]; exact f4⟩, ?_⟩
    rw [hu]
    exact (cls_iff hp hr).1 g1
/-- the chain of a class in conflict -/
theorem chain_conflict {l : List Con} {n r : Nat} (hp : ∀ x ∈ l, posB n x = true) (hr : r < n) (h : (typ l (cls l n r)).2 = false) : 0 < (chain l n (cls l n r)).length := by
  unfold typ at h
  cases hc : cmn l (mks l (cls l n r)) noT with
  | some t => rw [hc] at h; cases h
  | none =>
    obtain ⟨x, y, ⟨u, u1, u2⟩, ⟨v, v1, v2⟩, h3⟩ := (cmn_cls hp hr).1 hc
    obtain ⟨d, hd⟩ := u1.symm.trans v1
    exact ((chain_spec hp hr).2 d ⟨u, v, x, y, u1, u2, v2, hd, h3⟩).1
/-- a class that has two marks that exclude one another is in conflict -/
theorem typ_conflict {l : List Con} {n r d : Nat} (hp : ∀ x ∈ l, posB n x = true) (hr : r < n) (h : Far l r d) : typ l (cls l n r) = (noT, false) := by
  obtain ⟨u, v, t1, t2, h1, h2, h3, h4, h5⟩ := h
  unfold typ
  cases hc : cmn l (mks l (cls l n r)) noT with
  | none => rfl
  | some t =>
    have := ((cmn_cls hp hr).2 t hc).calm (fun x hx => hx.mark hp) ⟨u, h1, h2⟩ ⟨v, h1.trans ⟨d, h4⟩, h3⟩
    rw [h5] at this
    cases this
/-- every vertex is in a class -/
theorem clss_has {l : List Con} {n : Nat} (hp : ∀ x ∈ l, posB n x = true) {u : Nat} : ∀ k, k ≤ n → u < k → ∃ r, r < n ∧ cls l n r ∈ clss l n k ∧ Conn l r u
  | 0, _, h => by omega
  | k + 1, hk, h => by
    rw [clss_succ]
    rcases Nat.lt_or_ge u k with h' | h'
    · obtain ⟨r, h1, h2, h3⟩ := clss_has hp k (by omega) h'
      refine ⟨r, h1, ?_, h3⟩
      split
      · exact h2
      · exact List.mem_append.2 (.inl h2)
    · obtain rfl : u = k := by omega
      cases ha : (clss l n u).any (fun c => c.contains u) with
      | true =>
        rw [if_pos rfl]
        obtain ⟨c, hc, hcu⟩ := List.any_eq_true.1 ha
        obtain ⟨rs, q1, q2, _⟩ := clss_pair hp hp (fun _ h => h) (fun _ h => h) u (by omega)
        have hc' := hc
        rw [q2] at hc'
        obtain ⟨r, hr, rfl⟩ := List.mem_map.1 hc'
        have := q1 r hr
        exact ⟨r, by omega, hc, (cls_iff hp (by omega)).1 (List.contains_iff_mem.1 hcu)⟩
      | false =>
        rw [if_neg (by decide)]
        exact ⟨u, by omega, List.mem_append.2 (.inr (by simp)), Conn.refl l u⟩
/-- the classes are those of vertices -/
theorem clss_cls {l : List Con} {n : Nat} (hp : ∀ x ∈ l, posB n x = true) {c : List Nat} (h : c ∈ clss l n n) : ∃ r, r < n ∧ c = cls l n r := by
  obtain ⟨rs, q1, q2, _⟩ := clss_pair hp hp (fun _ h => h) (fun _ h => h) n (Nat.le_refl _)
  rw [q2] at h
  obtain ⟨r, hr, rfl⟩ := List.mem_map.1 h
  exact ⟨r, q1 r hr, rfl⟩
/-- what Solve returns are chains -/
theorem slvC_ok {l : List Con} {n : Nat} (hp : ∀ x ∈ l, posB n x = true) {ch : List Nat} (h : ch ∈ slvC l n) : ∃ r m q es, r < n ∧ ch = chain l n (cls l n r) ∧ cls l n r ∈ clss l n n ∧ (typ l (cls l n r)).2 = false ∧ ChOk l ch m q es ∧ Conn l r (vertAt l m) := by
  unfold slvC at h
  obtain ⟨c, hc, rfl⟩ := List.mem_map.1 h
  obtain ⟨hc1, hc2⟩ := List.mem_filter.1 hc
  obtain ⟨r, hr, rfl⟩ := clss_cls hp hc1
  have ht : (typ l (cls l n r)).2 = false := by simpa using hc2
  obtain ⟨m, q, es, h1, h2⟩ := chain_form hp hr (chain_conflict hp hr ht)
  exact ⟨r, m, q, es, hr, rfl, hc1, ht, h1, h2⟩
/-- a further constraint: a chain of the class, no longer -/
theorem slvC_grow {l l' : List Con} {n : Nat} (hp : ∀ x ∈ l, posB n x = true) (hp' : ∀ x ∈ l', posB n x = true) (hs : Sub l' l) {ch : List Nat} {m q : Nat} {es : List Nat} (h : ChOk l' ch m q es) (hv : vertAt l' m < n) :
    ∃ ch2 ∈ slvC l n, ∃ m2 q2 es2, ChOk l ch2 m2 q2 es2 ∧ Conn l (vertAt l' m) (vertAt l m2) ∧ ch2.length ≤ ch.length := by
  obtain ⟨r, hr, hc, hcn⟩ := clss_has hp n (Nat.le_refl _) hv
  have hF : Far l r es.length := ⟨vertAt l' m, vertAt l' q, markAt l' m, markAt l' q, hcn, ((mk_iff hp').1 ⟨m, h.m_in, rfl⟩).sub hs, ((mk_iff hp').1 ⟨q, h.q_in, rfl⟩).sub hs, h.rk.sub hs, h.excl⟩
  have ht := typ_conflict hp hr hF
  obtain ⟨c1, c2⟩ := (chain_spec hp hr).2 _ hF
  obtain ⟨m2, q2, es2, h1, h2⟩ := chain_form hp hr c1
  refine ⟨chain l n (cls l n r), ?_, m2, q2, es2, h1, hcn.symm.trans h2, ?_⟩
  · unfold slvC
    exact List.mem_map.2 ⟨_, List.mem_filter.2 ⟨hc, by rw [ht]; rfl⟩, rfl⟩
  · have : ch.length = es.length + 2 := by rw [h.form]; simp
    omega
end Go.Proofs.YtmamajillkajoaaDoor
