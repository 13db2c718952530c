/- What is proved: rows of types that a call owns. -/
import Derived.Test.YtoopnddlcofhoaaGreatDoorTyRep
import Derived.Deep.AppendLies
set_option linter.unusedVariables false
namespace Go.Proofs.YtoopnddlcofhoaaGreatDoor
open Go.RowKit

/-- the cells of types -/
def tcells : List TyV → List Value
  | [] => []
  | t :: ts => .int .i64 t.kind :: .int .i64 t.len :: .string t.nm :: tcells ts
theorem tcells_append (l m : List TyV) : tcells (l ++ m) = tcells l ++ tcells m := by
  induction l with
  | nil => rfl
  | cons r rs ih => simp [tcells, ih]
theorem tcells_len (l : List TyV) : (tcells l).length = l.length * 3 := by
  induction l with
  | nil => rfl
  | cons r rs ih => simp [tcells, ih]; omega
theorem tcells_one (l : List TyV) : ∀ u ∈ tcells l, u.oneCell' = true := by
  induction l with
  | nil => simp [tcells]
  | cons r rs ih =>
    intro u hu
    simp only [tcells, List.mem_cons] at hu
    rcases hu with rfl | rfl | rfl | hu
    · rfl
    · rfl
    · rfl
    · exact ih u hu
theorem tcells_get (l : List TyV) : ∀ (i : Nat) (h : i < l.length), (tcells l)[i * 3]? = some (.int .i64 l[i].kind) ∧ (tcells l)[i * 3 + 1]? = some (.int .i64 l[i].len) ∧ (tcells l)[i * 3 + 2]? = some (.string l[i].nm) := by
  induction l with
  | nil => intro i h; simp at h
  | cons r rs ih =>
    intro i h
    cases i with
    | zero => simp [tcells]
    | succ i =>
      have h' := ih i (by simpa using h)
      rw [show (i + 1) * 3 = i * 3 + 3 from by omega]
      simpa [tcells] using h'
theorem tcells_pats (n : Nat) : rowK n n = tcells (List.replicate n (bsc 1)) := by
  have e : ∀ n, pats n = tcells (List.replicate n (bsc 1)) := by
    intro n
    induction n with
    | zero => rfl
    | succ n ih =>
      unfold pats at *
      rw [List.replicate_succ, List.flatten_cons, ih, List.replicate_succ]
      rfl
  unfold rowK
  rw [Nat.sub_self, e]
  simp [zers]
theorem ty_addr_add (g k : Nat) : (⟨g, 0, none⟩ : Addr).add k = ⟨g, 0 + k, none⟩ := by
  unfold Addr.add
  by_cases hk : k = 0
  · simp [hk]
  · simp [hk]
/-- a row of its own that holds types reads as they -/
theorem types_own {w : World} {B : Nat} {v : Value} {l : List TyV} (h : w.ownsRow B 23 3 v l.length (tcells l)) : ∃ A c, v = .slice A l.length c ∧ TRow w.heap.size w A l := by
  rcases Nat.eq_zero_or_pos l.length with h0 | h0
  · rcases h.2 with ⟨rfl, _⟩ | ⟨g, cap, cur, rfl, _⟩
    · exact ⟨none, 0, by rw [h0], fun hh => by omega⟩
    · exact ⟨_, _, rfl, fun hh => by omega⟩
  · obtain ⟨g, cap, hv, _, hlt⟩ := h.form h0
    refine ⟨some ⟨g, 0, none⟩, cap, hv, fun _ => ⟨g, 0, rfl, hlt, fun i hi => ?_⟩⟩
    have hc := h.cells (g := g) (by rw [hv]; rfl)
    obtain ⟨e1, e2, e3⟩ := tcells_get l i hi
    have a1 := hc _ _ e1
    have a2 := hc _ _ e2
    have a3 := hc _ _ e3
    rw [ty_addr_add] at a1 a2 a3
    exact ⟨a1, a2, a3⟩
theorem ty_own_below {w w' : World} {B n sz : Nat} {E : TypeId} {v : Value} {xs : List Value} (h : w.ownsRow B E sz v n xs) (hb : Below w.heap.size w w') : w'.ownsRow B E sz v n xs :=
  h.kept (row := none) ⟨hb.os, hb.tape, hb.output, hb.size, fun k hk _ => hb.block k hk⟩ (by
    cases hv : v.ownBlock with
    | none => exact .inl rfl
    | some g => exact .inr (by simp))
theorem ty_own_base {w : World} {B B' n sz : Nat} {E : TypeId} {v : Value} {xs : List Value} (hB : B' ≤ B) (h : w.ownsRow B E sz v n xs) : w.ownsRow B' E sz v n xs := by
  refine ⟨h.1, ?_⟩
  rcases h.2 with h0 | ⟨g, cap, cur, hv, hb, hr⟩
  · exact .inl h0
  · exact .inr ⟨g, cap, cur, hv, by omega, hr⟩
/-- a block of n new elements is a row of n types -/
theorem own_block {w : World} {g : Nat} (l : List TyV) (hg : w.heap[g]? = some (.cells (tcells l).toArray 23 (0, 0))) (B : Nat) (hB : B ≤ g) (hl : l.length ≤ 1000000) : w.ownsRow B 23 3 (.slice (some ⟨g, 0, none⟩) l.length l.length) l.length (tcells l) :=
  ⟨tcells_len l, .inr ⟨g, l.length, (tcells l).toArray, rfl, hB, hg, Nat.le_refl _, by unfold maxLen; omega, by rw [List.size_toArray, tcells_len], by have h : (tcells l).length ≤ l.length * 3 := (by rw [tcells_len]; exact Nat.le_refl _); simpa using List.take_of_length_le h⟩⟩

section
variable {P : Program} (w : World)
theorem run_append_none (t ty e : TypeId) (i : TypeInfo) (ht : P.underlying t = some (.slice e)) (hi : P.info? e = some i) (b : Option Addr) (n cap c : Nat) (hn : n ≤ cap) :
    (Builtin.append_ #[t, t] ty #[.slice b n cap, .slice none 0 c]).run P w = .ok (.slice b n cap) w := by
  cases b with
  | none => simp [Builtin.append_, run_underlying ht, sizeOf, typeInfo, hi, Builtin.lenOf, Builtin.firstCells, hn]
  | some a => simp [Builtin.append_, run_underlying ht, sizeOf, typeInfo, hi, Builtin.lenOf, Builtin.firstCells, hn, storeCells]
end
end Go.Proofs.YtoopnddlcofhoaaGreatDoor
