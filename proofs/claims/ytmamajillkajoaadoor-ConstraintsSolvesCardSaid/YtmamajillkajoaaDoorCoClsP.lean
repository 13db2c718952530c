/- What is proved: the classes' vertices exist, and a class has no vertex twice. -/
import Derived.Test.YtmamajillkajoaaDoorCoKeep
set_option linter.unusedVariables false
namespace Go.Proofs.YtmamajillkajoaaDoor
open Go.RowKit

def VP (n : Nat) (vs : List Vis) : Prop := (∀ x ∈ vs, x.v < n) ∧ (vs.map (·.v)).Nodup
theorem oth_lt {l : List Con} {n v e : Nat} (hp : ∀ x ∈ l, posB n x = true) (hv : v < n) (he : e ∈ eqs l v l.length) : oth l e v < n := by
  obtain ⟨_, c, hc, hk, hab⟩ := eqs_mem he
  have h := pos_cases (hp c (List.mem_of_getElem? hc))
  unfold oth
  rw [hc]
  dsimp only
  rcases h.2 with ⟨h0, _⟩ | ⟨_, h1, h2⟩
  · rw [h0] at hk; simp at hk
  · have := h.1
    rcases hab with e | e <;> omega
theorem VP.push {n o : Nat} {vs : List Vis} (h : VP n vs) (hin : inV vs o = false) (ho : o < n) (f b : Int) (t : Nat) : VP n (vs ++ [⟨o, f, b, t⟩]) := by
  refine ⟨fun x hx => ?_, ?_⟩
  · rcases List.mem_append.1 hx with hx | hx
    · exact h.1 x hx
    · have : x = ⟨o, f, b, t⟩ := by simpa using hx
      rw [this]; exact ho
  · rw [List.map_append, List.map_cons, List.map_nil]
    refine List.nodup_append.2 ⟨h.2, by simp, fun a ha b' hb' => ?_⟩
    have : b' = o := by simpa using hb'
    subst this
    rintro rfl
    obtain ⟨x, hx, hxv⟩ := List.mem_map.1 ha
    unfold inV at hin
    have := List.any_eq_false.1 hin x hx
    simp [hxv] at this
theorem VP.expand {l : List Con} {n i : Nat} {x : Vis} : ∀ {es : List Nat} {vs : List Vis}, VP n vs → (∀ e ∈ es, oth l e x.v < n) → VP n (expand l i x es vs)
  | [], vs, h, _ => by simpa [Proofs.YtmamajillkajoaaDoor.expand] using h
  | e :: es, vs, h, hi => by
    rw [Proofs.YtmamajillkajoaaDoor.expand]
    cases hin : inV vs (oth l e x.v) with
    | true => exact VP.expand h (fun e' he' => hi e' (List.mem_cons_of_mem _ he'))
    | false => exact VP.expand (h.push hin (hi e (List.mem_cons_self ..)) _ _ _) (fun e' he' => hi e' (List.mem_cons_of_mem _ he'))
theorem VP.take {n : Nat} {vs : List Vis} (h : VP n vs) (k : Nat) : VP n (vs.take k) :=
  ⟨fun x hx => h.1 x (List.mem_of_mem_take hx), by rw [List.map_take]; exact h.2.sublist (List.take_sublist _ _)⟩
theorem VP.bfs {l : List Con} {n : Nat} {p : Vis → Bool} (hp : ∀ x ∈ l, posB n x = true) : ∀ {f i : Nat} {vs : List Vis}, VP n vs → VP n (bfs l p f i vs).1
  | 0, _, _, h => by simpa [Proofs.YtmamajillkajoaaDoor.bfs] using h
  | f + 1, i, vs, h => by
    rw [Proofs.YtmamajillkajoaaDoor.bfs]
    cases hx : vs[i]? with
    | none => exact h
    | some x =>
      dsimp only
      split
      · exact h.take _
      · exact VP.bfs hp (h.expand fun e he => oth_lt hp (h.1 x (List.mem_of_getElem? hx)) he)
theorem VP.one {n v : Nat} (h : v < n) (f b : Int) (t : Nat) : VP n [⟨v, f, b, t⟩] := ⟨fun x hx => by
  have : x = ⟨v, f, b, t⟩ := by simpa using hx
  rw [this]; exact h, by simp⟩
theorem cls_ok {l : List Con} {n k : Nat} (hp : ∀ x ∈ l, posB n x = true) (hk : k < n) : (∀ v ∈ cls l n k, v < n) ∧ (cls l n k).Nodup ∧ (cls l n k).length ≤ n := by
  have h := VP.bfs (p := fun _ => false) hp (f := n + 1) (i := 0) (VP.one hk (-1) (-1) 0)
  have h1 : ∀ v ∈ cls l n k, v < n := fun v hv => by
    unfold cls srch at hv
    obtain ⟨x, hx, rfl⟩ := List.mem_map.1 hv
    exact h.1 x hx
  have h2 : (cls l n k).Nodup := h.2
  exact ⟨h1, h2, nodup_len h2 h1⟩
theorem clss_ok {l : List Con} {n : Nat} (hp : ∀ x ∈ l, posB n x = true) : ∀ k, k ≤ n → ∀ c ∈ clss l n k, (∀ v ∈ c, v < n) ∧ c.Nodup ∧ c.length ≤ n
  | 0, _, c, hc => by simp [clss] at hc
  | k + 1, hk, c, hc => by
    rw [clss_succ] at hc
    split at hc
    · exact clss_ok hp k (by omega) c hc
    · rcases List.mem_append.1 hc with hc | hc
      · exact clss_ok hp k (by omega) c hc
      · have : c = cls l n k := by simpa using hc
        rw [this]
        exact cls_ok hp (by omega)
end Go.Proofs.YtmamajillkajoaaDoor
