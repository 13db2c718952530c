/- What is proved: a further constraint: for each chain of the shorter list one of the whole list in the same class that is no longer: plain mathematics. -/
import Derived.Test.YtmamajillkajoaaCoLen
import Derived.Test.YtmamajillkajoaaCoIsCh
import Derived.Test.YtmamajillkajoaaCoDist
set_option linter.unusedVariables false
namespace Go.Proofs.Ytmamajillkajoaa
open Go.RowKit

theorem take_get {l : List Con} {k i : Nat} {c : Con} (h : (l.take k)[i]? = some c) : l[i]? = some c := by
  rw [List.getElem?_take] at h
  split at h
  · exact h
  · cases h
theorem wlk_take {l : List Con} {k : Nat} : ∀ {es : List Nat} {a b : Int}, wlk (l.take k) a es = some b → wlk l a es = some b
  | [], _, _, h => h
  | i :: is, a, b, h => by
    obtain ⟨c, h1, h2, h3⟩ := wlk_step h
    have hc := take_get h1
    have hk : (c.kind == 1) = true := by rw [h2]; rfl
    rw [wlk, hc]
    dsimp only
    rw [hk, if_pos rfl]
    rcases h3 with ⟨e1, e2⟩ | ⟨e0, e1, e2⟩
    · rw [if_pos (by simpa using e1)]
      exact wlk_take e2
    · rw [if_neg (by simpa using e0), if_pos (by simpa using e1)]
      exact wlk_take e2
theorem IsCh.take {l : List Con} {k : Nat} {ch : List Nat} {m q : Nat} {es : List Nat} {cm cq : Con} (h : IsCh (l.take k) ch m q es cm cq) : IsCh l ch m q es cm cq :=
  ⟨h.form, h.lt, take_get h.gm, take_get h.gq, h.km, h.kq, h.excl, wlk_take h.leads⟩
theorem vertAt_some {l : List Con} {m : Nat} {c : Con} (h : l[m]? = some c) : vertAt l m = c.a.toNat := by unfold vertAt; rw [h]
/-- a chain that counts: its first mark's vertex is in the class, it is not too long -/
def qual (l : List Con) (f : Nat → Bool) (L : Nat) (x : List Nat) : Bool := f (vertAt l (x.headD 0)) && decide (x.length ≤ L)
/-- what is known of each chain -/
theorem chain_known {l : List Con} {n : Nat} (hp : ∀ x ∈ l, posB n x = true) {ch : List Nat} (h : ch ∈ slvC l n) : ∃ m q es cm cq u, IsCh l ch m q es cm cq ∧ es.length + 2 = ch.length ∧ ch.length ≤ n + 2 ∧ cm.a = ((u : Nat) : Int) ∧ u < n ∧ vertAt l m = u := by
  obtain ⟨r, m, q, es, hr, hch, _, ht, hok, hcn⟩ := slvC_ok hp h
  obtain ⟨cm, cq, hI, hva⟩ := hok.isCh
  have := (pos_cases (hp cm (List.mem_of_getElem? hI.gm))).1
  exact ⟨m, q, es, cm, cq, vertAt l m, hI, by rw [hI.form]; simp, slvC_len hp h, hva, by omega, rfl⟩
theorem grow_math {l : List Con} {n k : Nat} (hp : ∀ x ∈ l, posB n x = true) {ch : List Nat} (h : ch ∈ slvC (l.take k) n) : ∃ m q es cm cq u, IsCh l ch m q es cm cq ∧ es.length + 2 = ch.length ∧ ch.length ≤ n + 2 ∧ cm.a = ((u : Nat) : Int) ∧ u < n ∧ ∀ f : Nat → Bool, (∀ v, v < n → (f v = true ↔ Conn l u v)) → ∃ x ∈ slvC l n, qual l f ch.length x = true := by
  have hp' : ∀ x ∈ l.take k, posB n x = true := fun x hx => hp x (List.mem_of_mem_take hx)
  obtain ⟨r, m, q, es, hr, hch, _, ht, hok, hcn⟩ := slvC_ok hp' h
  obtain ⟨cm, cq, hI, hva⟩ := hok.isCh
  have hun : vertAt (l.take k) m < n := by
    have := (pos_cases (hp' cm (List.mem_of_getElem? hI.gm))).1
    omega
  refine ⟨m, q, es, cm, cq, vertAt (l.take k) m, hI.take, by rw [hI.form]; simp, slvC_len hp' h, hva, hun, fun f hf => ?_⟩
  obtain ⟨ch2, hm2, m2, q2, es2, hok2, hc2, hl2⟩ := slvC_grow hp hp' (fun x hx => List.mem_of_mem_take hx) hok hun
  refine ⟨ch2, hm2, ?_⟩
  obtain ⟨cm2, cq2, hI2, hva2⟩ := hok2.isCh
  have := (pos_cases (hp cm2 (List.mem_of_getElem? hI2.gm))).1
  unfold qual
  rw [Bool.and_eq_true]
  refine ⟨(hf _ ?_).2 ?_, by simpa using hl2⟩
  · rw [hI2.form]
    show vertAt l m2 < n
    omega
  · rw [hI2.form]
    exact hc2
theorem CRow.take {n₀ : Nat} {w : World} {A : Option Addr} {l : List Con} (h : CRow n₀ w A l) (k : Nat) : CRow n₀ w A (l.take k) := fun h0 => by
  rw [List.length_take] at h0
  obtain ⟨b, off, h1, h2, h3⟩ := h (by omega)
  refine ⟨b, off, h1, h2, fun i hi => ?_⟩
  rw [List.length_take] at hi
  rw [List.getElem_take]
  exact h3 i (by omega)
end Go.Proofs.Ytmamajillkajoaa
