/- What is proved: distances in the graph of constraints, as they are found round by round: plain mathematics. -/
import Derived.Test.YtmamajillkajoaaDoorCoWay
set_option linter.unusedVariables false
namespace Go.Proofs.YtmamajillkajoaaDoor
open Go.RowKit

/-- the least number of equalities from a vertex to another one -/
def Dst (l : List Con) (u v k : Nat) : Prop := Rk l k u v ∧ ∀ j, j < k → ¬ Rk l j u v
theorem Dst.uniq {l : List Con} {u v k j : Nat} (h : Dst l u v k) (g : Dst l u v j) : k = j := by
  rcases Nat.lt_trichotomy k j with h1 | h1 | h1
  · exact absurd h.1 (g.2 k h1)
  · exact h1
  · exact absurd g.1 (h.2 j h1)
theorem Rk.least {l : List Con} {u v : Nat} : ∀ {k : Nat}, Rk l k u v → ∃ j, j ≤ k ∧ Dst l u v j := by
  intro k
  induction k using Nat.strongRecOn with
  | ind k ih =>
    intro h
    by_cases hx : ∃ j, j < k ∧ Rk l j u v
    · obtain ⟨j, h1, h2⟩ := hx
      obtain ⟨i, h3, h4⟩ := ih j h1 h2
      exact ⟨i, by omega, h4⟩
    · exact ⟨k, Nat.le_refl _, h, fun j hj hr => hx ⟨j, hj, hr⟩⟩
theorem Dst.prev {l : List Con} {u v k : Nat} (h : Dst l u v (k + 1)) : ∃ w, Dst l u w k ∧ Adj l w v := by
  obtain ⟨⟨w, h1, h2⟩, h3⟩ := h
  exact ⟨w, ⟨h1, fun j hj hr => h3 (j + 1) (by omega) ⟨w, hr, h2⟩⟩, h2⟩
theorem Dst.down {l : List Con} {u : Nat} : ∀ {k d : Nat} {v : Nat}, Dst l u v k → d ≤ k → ∃ w, Dst l u w d
  | 0, d, v, h, hd => ⟨v, by
    have e : d = 0 := by omega
    rw [e]; exact h⟩
  | k + 1, d, v, h, hd => by
    by_cases e : d = k + 1
    · subst e; exact ⟨v, h⟩
    · obtain ⟨w, hw, _⟩ := h.prev
      exact Dst.down hw (by omega)
theorem Dst.zero (l : List Con) (u : Nat) : Dst l u u 0 := ⟨rfl, fun j hj => by omega⟩
theorem Adj.lt {l : List Con} {n u v : Nat} (hp : ∀ x ∈ l, posB n x = true) (h : Adj l u v) : u < n ∧ v < n := by
  obtain ⟨k, c, hc, hk, hab⟩ := h
  have hpc := pos_cases (hp c (List.mem_of_getElem? hc))
  rcases hpc.2 with ⟨e0, _⟩ | ⟨_, b1, b2⟩
  · rw [e0] at hk; simp at hk
  · have := hpc.1
    omega
theorem Dst.lt {l : List Con} {n u v k : Nat} (hp : ∀ x ∈ l, posB n x = true) (hu : u < n) (h : Dst l u v k) : v < n := by
  cases k with
  | zero => obtain rfl : u = v := h.1; exact hu
  | succ k => obtain ⟨w, _, h2⟩ := h.prev; exact (h2.lt hp).2

/-- how many are not reached yet -/
def cntF (n : Nat) (f : Nat → Int) : Nat := ((List.range n).filter (fun v => f v == -1)).length
def setF (f : Nat → Int) (y : Nat) (x : Int) : Nat → Int := fun v => if v = y then x else f v
theorem cntF_set {f : Nat → Int} {y : Nat} {x : Int} : ∀ {n : Nat}, y < n → f y = -1 → x ≠ -1 → cntF n (setF f y x) + 1 = cntF n f
  | 0, h, _, _ => by omega
  | n + 1, h, hy, hx => by
    unfold cntF
    rw [List.range_succ, List.filter_append, List.filter_append, List.length_append, List.length_append]
    by_cases e : y = n
    · subst e
      have h1 : ((List.range y).filter (fun v => setF f y x v == -1)) = (List.range y).filter (fun v => f v == -1) := by
        refine List.filter_congr fun v hv => ?_
        have : v ≠ y := by have := List.mem_range.1 hv; omega
        unfold setF
        rw [if_neg this]
      rw [h1]
      have hx' : (x == -1) = false := by simpa using hx
      simp [setF, hy, hx']
    · have ih := cntF_set (f := f) (x := x) (n := n) (by omega) hy hx
      unfold cntF at ih
      have : ([n].filter (fun v => setF f y x v == -1)) = [n].filter (fun v => f v == -1) := by
        refine List.filter_congr fun v hv => ?_
        have : v = n := by simpa using hv
        unfold setF
        rw [if_neg (by omega)]
      rw [this]
      omega
theorem cntF_le (n : Nat) (f : Nat → Int) : cntF n f ≤ n := by
  unfold cntF
  have := List.length_filter_le (fun v => f v == -1) (List.range n)
  simpa using this
theorem cntF_pos {n : Nat} {f : Nat → Int} {y : Nat} (hy : y < n) (h : f y = -1) : 0 < cntF n f := by
  unfold cntF
  refine List.length_pos_iff_exists_mem.2 ⟨y, List.mem_filter.2 ⟨List.mem_range.2 hy, by simpa using h⟩⟩
theorem cntF_all (n : Nat) : cntF n (fun _ => -1) = n := by
  unfold cntF
  rw [List.filter_eq_self.2 (fun v _ => by simp)]
  simp

/-- a round under way -/
structure DI (l : List Con) (n u d i : Nat) (f : Nat → Int) (ch : Bool) : Prop where
  val : ∀ v, v < n → f v = -1 ∨ ∃ k : Nat, k ≤ d + 1 ∧ f v = (k : Int) ∧ Dst l u v k
  low : ∀ v k, v < n → k ≤ d → Dst l u v k → f v = (k : Int)
  done : ∀ (j : Nat) (c : Con), j < i → l[j]? = some c → (c.kind == 0) = false → ∀ x y : Nat, (c.a = (x : Int) ∧ c.b = (y : Int) ∨ c.b = (x : Int) ∧ c.a = (y : Int)) → f x = (d : Int) → f y ≠ -1
  calm : ch = false → ∀ v, v < n → f v ≠ ((d + 1 : Nat) : Int)
  cnt : d + (if ch then 1 else 0) + cntF n f + 1 ≤ n
/-- what is known at the end -/
def DOk (l : List Con) (n u : Nat) (f : Nat → Int) : Prop := ∀ v, v < n → f v = -1 ∧ ¬ Conn l u v ∨ ∃ k : Nat, k ≤ n ∧ f v = (k : Int) ∧ Dst l u v k
theorem DI.start {l : List Con} {n u : Nat} (hu : u < n) : DI l n u 0 0 (setF (fun _ => -1) u 0) false := by
  refine ⟨fun v hv => ?_, fun v k hv hk h => ?_, fun j c hj => by omega, fun _ v hv => ?_, ?_⟩
  · unfold setF
    by_cases e : v = u
    · subst e; rw [if_pos rfl]; exact .inr ⟨0, by omega, rfl, Dst.zero l v⟩
    · rw [if_neg e]; exact .inl rfl
  · obtain rfl : k = 0 := by omega
    obtain rfl : u = v := h.1
    unfold setF
    rw [if_pos rfl]; rfl
  · unfold setF
    dsimp only
    split <;> omega
  · have := cntF_set (f := fun _ => -1) (x := 0) hu rfl (by decide)
    rw [cntF_all] at this
    simp only [Bool.false_eq_true, if_false]
    omega
theorem DI.set {l : List Con} {n u d i x y : Nat} {f : Nat → Int} {ch : Bool} (h : DI l n u d i f ch) (hx : x < n) (hy : y < n) (ha : Adj l x y) (fx : f x = (d : Int)) (fy : f y < 0) : DI l n u d i (setF f y (d + 1)) true := by
  have fy' : f y = -1 := by
    rcases h.val y hy with e | ⟨k, _, e, _⟩
    · exact e
    · omega
  have hDx : Dst l u x d := by
    rcases h.val x hx with e | ⟨k, _, e, hk⟩
    · omega
    · have : k = d := by omega
      rw [← this]; exact hk
  have hDy : Dst l u y (d + 1) := by
    refine ⟨⟨x, hDx.1, ha⟩, fun j hj hr => ?_⟩
    obtain ⟨k, hk, hD⟩ := hr.least
    have := h.low y k hy (by omega) hD
    omega
  refine ⟨fun v hv => ?_, fun v k hv hk hD => ?_, fun j c hj hc hk a b hab fa => ?_, (fun hc => by cases hc), ?_⟩
  · unfold setF
    by_cases e : v = y
    · subst e; rw [if_pos rfl]; exact .inr ⟨d + 1, Nat.le_refl _, by omega, hDy⟩
    · rw [if_neg e]; exact h.val v hv
  · unfold setF
    by_cases e : v = y
    · subst e
      have := hD.uniq hDy
      omega
    · rw [if_neg e]; exact h.low v k hv hk hD
  · unfold setF at fa ⊢
    by_cases e : b = y
    · rw [if_pos e]; omega
    · rw [if_neg e]
      by_cases e2 : a = y
      · rw [if_pos e2] at fa; omega
      · rw [if_neg e2] at fa
        exact h.done j c hj hc hk a b hab fa
  · have h1 := cntF_set (f := f) (x := (d + 1 : Int)) hy fy' (by omega)
    have h2 := h.cnt
    simp only [if_true]
    split at h2 <;> omega
/-- the next constraint: neither is to be set -/
theorem DI.step {l : List Con} {n u d i : Nat} {f : Nat → Int} {ch : Bool} (h : DI l n u d i f ch) (hp : ∀ x ∈ l, posB n x = true) {c : Con} (hc : l[i]? = some c) (hn : (c.kind == 0) = true ∨ ∀ x y : Nat, c.a = (x : Int) → c.b = (y : Int) → (f x = (d : Int) → ¬ f y < 0) ∧ (f y = (d : Int) → ¬ f x < 0)) : DI l n u d (i + 1) f ch := by
  refine ⟨h.val, h.low, fun j c' hj hc' hk x y hab fx => ?_, h.calm, h.cnt⟩
  by_cases e : j < i
  · exact h.done j c' e hc' hk x y hab fx
  · obtain rfl : j = i := by omega
    rw [hc] at hc'
    obtain rfl : c = c' := by simpa using hc'
    rcases hn with hn | hn
    · rw [hn] at hk; cases hk
    · rcases hab with ⟨e1, e2⟩ | ⟨e1, e2⟩
      · have := (hn x y e1 e2).1 fx; omega
      · have := (hn y x e2 e1).2 fx; omega
/-- the next round -/
theorem DI.round {l : List Con} {n u d : Nat} {f : Nat → Int} (h : DI l n u d l.length f true) (hp : ∀ x ∈ l, posB n x = true) (hu : u < n) : DI l n u (d + 1) 0 f false := by
  refine ⟨fun v hv => ?_, fun v k hv hk hD => ?_, fun j c hj => by omega, fun _ v hv e => ?_, ?_⟩
  · rcases h.val v hv with e | ⟨k, h1, h2, h3⟩
    · exact .inl e
    · exact .inr ⟨k, by omega, h2, h3⟩
  · by_cases e : k ≤ d
    · exact h.low v k hv e hD
    · obtain rfl : k = d + 1 := by omega
      obtain ⟨w, hw, hA⟩ := hD.prev
      have hwn := (hA.lt hp).1
      have fw := h.low w d hwn (Nat.le_refl _) hw
      obtain ⟨j, c, hc, hck, hab⟩ := hA
      have := h.done j c (List.getElem?_eq_some_iff.1 hc).1 hc hck w v hab fw
      rcases h.val v hv with e | ⟨k, _, h2, h3⟩
      · exact absurd e this
      · rw [h2, h3.uniq hD]
  · rcases h.val v hv with e' | ⟨k, h1, h2, h3⟩ <;> omega
  · have := h.cnt
    simp only [if_true] at this
    simp only [Bool.false_eq_true, if_false]
    omega
/-- the end -/
theorem DI.fin {l : List Con} {n u d : Nat} {f : Nat → Int} (h : DI l n u d l.length f false) (hp : ∀ x ∈ l, posB n x = true) (hu : u < n) : DOk l n u f := by
  have hd1 : ∀ w, ¬ Dst l u w (d + 1) := fun w hD => by
    obtain ⟨x, hx, hA⟩ := hD.prev
    have hxn := (hA.lt hp).1
    have fx := h.low x d hxn (Nat.le_refl _) hx
    have hA' := hA
    obtain ⟨j, c, hc, hck, hab⟩ := hA
    have := h.done j c (List.getElem?_eq_some_iff.1 hc).1 hc hck x w hab fx
    rcases h.val w (hA'.lt hp).2 with e | ⟨k, _, h2, h3⟩
    · exact this e
    · have h4 := h3.uniq hD
      exact h.calm rfl w (hA'.lt hp).2 (by rw [h2, h4])
  have hall : ∀ w k, Dst l u w k → k ≤ d := fun w k hD => by
    by_cases e : k ≤ d
    · exact e
    · obtain ⟨x, hx⟩ := hD.down (d := d + 1) (by omega)
      exact absurd hx (hd1 x)
  have hcn := h.cnt
  intro v hv
  rcases h.val v hv with e | ⟨k, h1, h2, h3⟩
  · refine .inl ⟨e, fun ⟨k, hk⟩ => ?_⟩
    obtain ⟨j, _, hD⟩ := hk.least
    have := h.low v j hv (hall v j hD) hD
    omega
  · exact .inr ⟨k, by have := hall v k h3; omega, h2, h3⟩
theorem DOk.conn {l : List Con} {n u : Nat} {f : Nat → Int} (h : DOk l n u f) {v : Nat} (hv : v < n) : 0 ≤ f v ↔ Conn l u v := by
  rcases h v hv with ⟨e, hn⟩ | ⟨k, _, e, hD⟩
  · exact ⟨fun h => by omega, fun h => absurd h hn⟩
  · exact ⟨fun _ => ⟨k, hD.1⟩, fun _ => by omega⟩
end Go.Proofs.YtmamajillkajoaaDoor
