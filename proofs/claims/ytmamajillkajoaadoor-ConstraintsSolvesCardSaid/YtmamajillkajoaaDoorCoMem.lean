/- What is proved: rows of integers that grow one beside another, as they lie in memory; nothing of the program's functions. -/
import Derived.Test.YtmamajillkajoaaDoorCoPlain
import Derived.Laws.MakeOwn
set_option linter.unusedVariables false
namespace Go.Proofs.YtmamajillkajoaaDoor
open Go.RowKit

/-- integers -/
def ints (l : List Nat) : List Value := l.map (fun (x : Nat) => Value.int .i64 (x : Int))
theorem ints_len (l : List Nat) : (ints l).length = l.length := by simp [ints]
theorem ints_append (l m : List Nat) : ints (l ++ m) = ints l ++ ints m := by simp [ints]
theorem ints_one (l : List Nat) : ∀ u ∈ ints l, u.oneCell' = true := by
  intro u hu
  obtain ⟨x, _, rfl⟩ := List.mem_map.1 hu
  rfl
/-- a row of integers that the call owns -/
def IOwn (w : World) (B : Nat) (v : Value) (l : List Nat) : Prop := w.ownsRow B 3 1 v l.length (ints l)
/-- a slice of integers -/
def IRow (n₀ : Nat) (w : World) (A : Option Addr) (l : List Nat) : Prop :=
  0 < l.length → ∃ b off, A = some ⟨b, off, none⟩ ∧ b < n₀ ∧ ∀ (i : Nat) (h : i < l.length), w.cell? ⟨b, off + i, none⟩ = some (.int .i64 ((l[i] : Nat) : Int))
theorem co_own_ne {w : World} {B1 B2 s1 s2 n1 n2 : Nat} {E1 E2 : TypeId} {v1 v2 : Value} {x1 x2 : List Value} (h1 : w.ownsRow B1 E1 s1 v1 n1 x1) (h2 : w.ownsRow B2 E2 s2 v2 n2 x2) (hE : E1 ≠ E2) : v1.ownBlock = none ∨ v1.ownBlock ≠ v2.ownBlock := by
  rcases h1.2 with ⟨rfl, _⟩ | ⟨g, cap, cur, rfl, _, hg, _⟩
  · exact .inl rfl
  · right
    intro e
    rcases h2.2 with ⟨rfl, _⟩ | ⟨g', cap', cur', rfl, _, hg', _⟩
    · cases e
    · cases e
      rw [show w.heap[(⟨g, 0, none⟩ : Addr).block]? = w.heap[g]? from rfl, hg] at hg'
      simp only [Option.some.injEq, Obj.cells.injEq] at hg'
      exact hE hg'.2.1
/-- the row's block is as it was -/
theorem own_stays {w w' : World} {B E s n : Nat} {v : Value} {xs : List Value} (h : w.ownsRow B E s v n xs) (hb : ∀ b, v.ownBlock = some b → w'.heap[b]? = w.heap[b]?) : w'.ownsRow B E s v n xs := by
  refine ⟨h.1, ?_⟩
  rcases h.2 with h0 | ⟨g, cap, cur, hv, hle, hg, r⟩
  · exact .inl h0
  · exact .inr ⟨g, cap, cur, hv, hle, (hb g (by rw [hv]; rfl)).trans hg, r⟩
/-- its block: of the element's type, from the base on -/
theorem own_block' {w : World} {B E s n : Nat} {v : Value} {xs : List Value} {b : Nat} (h : w.ownsRow B E s v n xs) (hb : v.ownBlock = some b) : B ≤ b ∧ b < w.heap.size ∧ ∃ cs, w.heap[b]? = some (.cells cs E (0, 0)) := by
  refine ⟨(h.lt b hb).1, (h.lt b hb).2, ?_⟩
  rcases h.2 with ⟨rfl, _⟩ | ⟨g, cap, cur, rfl, _, hg, _⟩
  · cases hb
  · cases hb
    exact ⟨_, hg⟩

/-- rows of integers, one beside another -/
structure Rows2 (w : World) (B m : Nat) (R : Nat → Value) (L : Nat → List Nat) : Prop where
  own : ∀ i, i < m → IOwn w B (R i) (L i)
  dis : ∀ i j, i < m → j < m → i ≠ j → (R i).ownBlock = none ∨ (R i).ownBlock ≠ (R j).ownBlock
theorem Rows2.stays {w w' : World} {B m : Nat} {R : Nat → Value} {L : Nat → List Nat} (h : Rows2 w B m R L) (hb : ∀ b cs, B ≤ b → w.heap[b]? = some (.cells cs 3 (0, 0)) → w'.heap[b]? = w.heap[b]?) : Rows2 w' B m R L :=
  ⟨fun i hi => own_stays (h.own i hi) fun b e => by obtain ⟨h1, h2, cs, h3⟩ := own_block' (h.own i hi) e; exact hb b cs h1 h3, h.dis⟩
theorem Rows2.none (w : World) (B m : Nat) : Rows2 w B m (fun _ => .slice none 0 0) (fun _ => []) :=
  ⟨fun i _ => World.ownsRow_nil _ _ _ _, fun _ _ _ _ _ => .inl rfl⟩
/-- one of them grows -/
theorem Rows2.grow {w w' : World} {B m : Nat} {R : Nat → Value} {L : Nat → List Nat} (h : Rows2 w B m R L) {k : Nat} (hk : k < m) {v : Value} {x : List Nat} (hown : IOwn w' B v x) (hgr : w.grownBy w' (R k).ownBlock) (hnew : ∀ b, v.ownBlock = some b → (R k).ownBlock = some b ∨ b = w.heap.size) :
    Rows2 w' B m (fun i => if i = k then v else R i) (fun i => if i = k then x else L i) := by
  constructor
  · intro i hi
    by_cases e : i = k
    · simp only [e, if_true]; exact hown
    · simp only [e, if_false]
      have hd := h.dis i k hi hk e
      refine own_stays (h.own i hi) fun b hb => hgr.block b (own_block' (h.own i hi) hb).2.1 ?_
      rcases hd with hd | hd
      · rw [hd] at hb; cases hb
      · rw [← hb]; exact hd
  · have old : ∀ i, i < m → i ≠ k → (R i).ownBlock = .none ∨ (R i).ownBlock ≠ v.ownBlock := by
      intro i hi e
      cases hb : (R i).ownBlock with
      | none => exact .inl rfl
      | some b =>
        right
        intro hv
        rcases hnew b hv.symm with h1 | h1
        · rcases h.dis i k hi hk e with hd | hd
          · rw [hd] at hb; cases hb
          · exact hd (hb.trans h1.symm)
        · have := (own_block' (h.own i hi) hb).2.1
          omega
    intro i j hi hj hij
    by_cases ei : i = k
    · by_cases ej : j = k
      · exact absurd (ei.trans ej.symm) hij
      · simp only [ei, ej, if_true, if_false]
        rcases old j hj ej with h1 | h1
        · cases hb : v.ownBlock with
          | none => exact .inl rfl
          | some b => right; rw [h1]; simp
        · exact .inr (fun h2 => h1 h2.symm)
    · by_cases ej : j = k
      · simp only [ei, ej, if_true, if_false]
        exact old i hi ei
      · simp only [ei, ej, if_false]
        exact h.dis i j hi hj hij
end Go.Proofs.YtmamajillkajoaaDoor
