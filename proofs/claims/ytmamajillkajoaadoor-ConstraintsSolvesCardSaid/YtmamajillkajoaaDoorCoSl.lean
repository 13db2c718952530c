/- What is proved: slices of integers and of slices of integers, as they stay while a graph is searched. -/
import Derived.Test.YtmamajillkajoaaDoorCoSearch
set_option linter.unusedVariables false
namespace Go.Proofs.YtmamajillkajoaaDoor
open Go.RowKit

/-- integers in a block that no search changes -/
def ISl (g : Gp) (w : World) (X : Option Addr) (l : List Nat) : Prop :=
  0 < l.length → ∃ b cs, X = some ⟨b, 0, none⟩ ∧ b ≠ g.gb ∧ b ≠ g.rb ∧ g.B ≤ b ∧ w.heap[b]? = some (.cells cs 3 (0, 0)) ∧ ∀ (i : Nat) (h : i < l.length), cs[i]? = some (.int .i64 ((l[i] : Nat) : Int))
theorem ISl.fr {g : Gp} {Z : Nat → Prop} {w w' : World} {X : Option Addr} {l : List Nat} (h : ISl g w X l) (hf : FrZ g Z w w') (hz : ∀ b, Z b → w.heap.size ≤ b) : ISl g w' X l := fun h0 => by
  obtain ⟨b, cs, h1, h2, h3, h4, h5, h6⟩ := h h0
  exact ⟨b, cs, h1, h2, h3, h4, hf.2 b cs _ (fun k => by have := hz b k; have := (Array.getElem?_eq_some_iff.1 h5).1; omega) h2 h3 (by decide) h5, h6⟩
theorem ISl.later {g : Gp} {w w' : World} {X : Option Addr} {l : List Nat} (h : ISl g w X l) (hb : Below w.heap.size w w') : ISl g w' X l := h.fr (Z := fun _ => False) (FrZ.below hb) (fun _ h => h.elim)
theorem ISl.of_own {g : Gp} (ho : GpOk g) {w : World} {B c n : Nat} {X : Option Addr} {l : List Nat} (h : IOwn w B (.slice X n c) l) (hB : g.B ≤ B) (hn : l.length = n) : ISl g w X l := fun h0 => by
  rcases h.2 with ⟨h1, h2⟩ | ⟨b, cap, cur, h1, h2, h3, h4, h5, h6, h7⟩
  · omega
  · cases h1
    have hb := ho.b
    have hu := ho.hi
    refine ⟨b, cur, rfl, by omega, by omega, by omega, h3, fun i hi => ?_⟩
    have e : (ints l)[i]? = some (.int .i64 ((l[i] : Nat) : Int)) := by simp [ints, hi]
    rw [← h7, List.getElem?_take] at e
    split at e
    · rw [← e]; simp
    · cases e
theorem ISl.cells {g : Gp} {w : World} {X : Option Addr} {l : List Nat} (h : ISl g w X l) (h0 : 0 < l.length) : ∃ b, X = some ⟨b, 0, none⟩ ∧ b < w.heap.size ∧ ∀ (i : Nat) (h : i < l.length), w.cell? ⟨b, i, none⟩ = some (.int .i64 ((l[i] : Nat) : Int)) := by
  obtain ⟨b, cs, h1, _, _, _, h5, h6⟩ := h h0
  exact ⟨b, h1, (Array.getElem?_eq_some_iff.1 h5).1, fun i hi => by rw [← h6 i hi]; exact Lib.cell_of_heap h5 i⟩

theorem IOwn.cap {w : World} {B n c : Nat} {X : Option Addr} {l : List Nat} (h : IOwn w B (.slice X n c) l) : n ≤ c := by
  rcases h.2 with ⟨h1, h2⟩ | ⟨b, cap, cur, h1, h2, h3, h4, _⟩
  · cases h1; exact Nat.le_refl _
  · cases h1; exact h4
/-- slices of integers, in a row that the call owns -/
def LOwn (g : Gp) (w : World) (B : Nat) (v : Value) (L : List (List Nat)) : Prop :=
  ∃ vals : List Value, vals.length = L.length ∧ w.ownsRow B 23 1 v L.length vals ∧ (∀ u ∈ vals, u.oneCell' = true) ∧ ∀ (i : Nat) (h : i < L.length), ∃ X c, vals[i]? = some (.slice X L[i].length c) ∧ ISl g w X L[i] ∧ L[i].length ≤ c
theorem LOwn.nil (g : Gp) (w : World) (B : Nat) : LOwn g w B (.slice none 0 0) [] := ⟨[], rfl, World.ownsRow_nil _ _ _ _, by simp, fun i h => by simp at h⟩
theorem LOwn.fr {g : Gp} (ho : GpOk g) {Z : Nat → Prop} {w w' : World} {B : Nat} {v : Value} {L : List (List Nat)} (h : LOwn g w B v L) (hB : g.B ≤ B) (hf : FrZ g Z w w') (hz : ∀ b, Z b → w.heap.size ≤ b) : LOwn g w' B v L := by
  obtain ⟨vals, h1, h2, h3, h4⟩ := h
  have hb := ho.b
  have hu := ho.hi
  refine ⟨vals, h1, own_stays h2 fun b e => ?_, h3, fun i hi => by obtain ⟨X, c, e1, e2, e3⟩ := h4 i hi; exact ⟨X, c, e1, e2.fr hf hz, e3⟩⟩
  obtain ⟨q1, q2, cs, q3⟩ := own_block' h2 e
  rw [hf.2 b cs _ (fun k => by have := hz b k; omega) (by omega) (by omega) (by decide) q3, q3]
theorem LOwn.later {g : Gp} (ho : GpOk g) {w w' : World} {B : Nat} {v : Value} {L : List (List Nat)} (h : LOwn g w B v L) (hB : g.B ≤ B) (hb : Below w.heap.size w w') : LOwn g w' B v L := h.fr ho hB (Z := fun _ => False) (FrZ.below hb) (fun _ h => h.elim)
/-- one more slice -/
theorem LOwn.push {g : Gp} {w' : World} {B : Nat} {v' : Value} {L : List (List Nat)} (vals : List Value) (h1 : vals.length = L.length) (h3 : ∀ u ∈ vals, u.oneCell' = true) (h4 : ∀ (i : Nat) (h : i < L.length), ∃ X c, vals[i]? = some (.slice X L[i].length c) ∧ ISl g w' X L[i] ∧ L[i].length ≤ c) {X : Option Addr} {c : Nat} {x : List Nat} (hx : ISl g w' X x) (hc : x.length ≤ c)
    (hown : w'.ownsRow B 23 1 v' (L.length + 1) (vals ++ [.slice X x.length c])) : LOwn g w' B v' (L ++ [x]) := by
  refine ⟨vals ++ [.slice X x.length c], by simp [h1], by rw [List.length_append]; exact hown, fun u hu => ?_, fun i hi => ?_⟩
  · rcases List.mem_append.1 hu with hu | hu
    · exact h3 u hu
    · have : u = .slice X x.length c := by simpa using hu
      rw [this]; rfl
  · by_cases e : i < L.length
    · obtain ⟨X', c', e1, e2, e3⟩ := h4 i e
      refine ⟨X', c', ?_, ?_, ?_⟩
      · rw [List.getElem?_append_left (by omega), e1, List.getElem_append_left e]
      · rw [List.getElem_append_left e]; exact e2
      · rw [List.getElem_append_left e]; exact e3
    · have e2 : i = L.length := by simp at hi; omega
      subst e2
      refine ⟨X, c, ?_, ?_, ?_⟩
      · rw [show (L ++ [x])[L.length] = x from by simp, show (vals ++ [Value.slice X x.length c])[L.length]? = some (Value.slice X x.length c) from by rw [← h1]; simp]
      · simpa using hx
      · simpa using hc
theorem infoIn2 : (Tryd.prog.info? 3).map (fun i => (i.zero, i.size, i.bytes)) = some (some (.int .i64 0), 1, 8) := by kernel_rfl
end Go.Proofs.YtmamajillkajoaaDoor
