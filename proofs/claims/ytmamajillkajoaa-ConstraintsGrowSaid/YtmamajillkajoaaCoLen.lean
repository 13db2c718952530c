/- What is proved: a chain is no longer than the vertices are many, and two: plain mathematics. -/
import Derived.Test.YtmamajillkajoaaCoTyp
set_option linter.unusedVariables false
namespace Go.Proofs.Ytmamajillkajoaa
open Go.RowKit

theorem BI.st_le {l : List Con} {s i : Nat} {vs : List Vis} (h : BI l s i vs) : ∀ (j : Nat) (x : Vis), vs[j]? = some x → x.st ≤ j := by
  intro j
  induction j using Nat.strongRecOn with
  | ind j ih =>
    intro x hx
    rcases Nat.eq_zero_or_pos j with h0 | h0
    · subst h0
      obtain ⟨x0, f1, f2, f3, _⟩ := h.first
      rw [hx] at f1
      obtain rfl : x = x0 := by simpa using f1
      omega
    · obtain ⟨p, e, y, _, k2, k3, _, _, _, k7⟩ := h.par j x hx h0
      have := ih p k2 y k3
      omega
theorem frm_len {l : List Con} {n m lim : Nat} {c : List Nat} (hp : ∀ x ∈ l, posB n x = true) (hv : vertAt l m < n) (h : frm l n m lim = some c) : c.length ≤ n + 2 := by
  obtain ⟨r, hr⟩ : ∃ r, srch l n (vertAt l m) (stp l m lim) = r := ⟨_, rfl⟩
  have hE := srch_end (p := stp l m lim) hp hv
  have hV : VP n (srch l n (vertAt l m) (stp l m lim)) := VP.bfs (p := stp l m lim) hp (f := n + 1) (i := 0) (VP.one hv (-1) (-1) 0)
  rw [hr] at hE hV
  have hrn : r.length ≤ n := by
    have := nodup_len hV.2 (fun u hu => by
      obtain ⟨x, hx, rfl⟩ := List.mem_map.1 hu
      exact hV.1 x hx)
    rwa [List.length_map] at this
  rcases hE with ⟨i, hb, hi, hno⟩ | ⟨i, vs, x, hb, hrv, hx, hpx, hno⟩
  · rw [frm_none hr hno] at h; cases h
  · have hil : i < vs.length := (List.getElem?_eq_some_iff.1 hx).1
    have hlen : r.length = i + 1 := by rw [hrv, List.length_take]; omega
    have hri : r[i]? = some x := by rw [hrv, List.getElem?_take, if_pos (by omega)]; exact hx
    have hlast : r.getLast? = some x := by rw [List.getLast?_eq_getElem?, hlen]; exact hri
    have hst := hb.st_le i x hx
    have hf := frm_eq hr
    rw [hlast] at hf
    dsimp only at hf
    cases hlm : lmB lim x with
    | true => rw [hlm, if_pos rfl, h] at hf; cases hf
    | false =>
      rw [hlm, if_neg (by decide)] at hf
      cases hh : hit l m x.v with
      | none => rw [hh, h] at hf; cases hf
      | some q =>
        rw [hh, h] at hf
        dsimp only at hf
        have hw := way_len (r := r) (by rw [hrv]; exact hb.wp _) r.length (r.length - 1) x (by omega) (by rw [hlen]; exact hri)
        have := Option.some.inj hf
        rw [this]
        simp [hw]
        omega
theorem chain_len {l : List Con} {n r : Nat} (hp : ∀ x ∈ l, posB n x = true) (hr : r < n) : (chain l n (cls l n r)).length ≤ n + 2 := by
  have hok := (cls_ok hp hr).1
  rcases chn_form l n (mks l (cls l n r)) [] with h | ⟨pre, m, post, c, h1, h2, h3⟩
  · unfold chain
    rw [h]
    simp
  · have hm : m ∈ mks l (cls l n r) := by rw [h1]; simp
    obtain ⟨u, g1, g2⟩ := mks_iff.1 hm
    have := frm_len hp (by rw [vert_eq g2]; exact hok u g1) h2
    unfold chain
    rw [h3]
    exact this
theorem slvC_len {l : List Con} {n : Nat} (hp : ∀ x ∈ l, posB n x = true) {ch : List Nat} (h : ch ∈ slvC l n) : ch.length ≤ n + 2 := by
  obtain ⟨r, m, q, es, hr, hch, _⟩ := slvC_ok hp h
  rw [hch]
  exact chain_len hp hr
end Go.Proofs.Ytmamajillkajoaa
