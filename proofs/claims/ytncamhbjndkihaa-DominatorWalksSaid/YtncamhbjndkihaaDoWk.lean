/- What is proved: walks, as mathematics; an argument that is a slice of bytes; Contains. -/
import Derived.Test.YtncamhbjndkihaaDoRefD
import Derived.Test.YtncamhbjndkihaaDoAwake
import Derived.Test.YtncamhbjndkihaaDoSmall
import Derived.Test.YtncamhbjndkihaaDoOpen
set_option linter.unusedVariables false
namespace Go.Proofs.Ytncamhbjndkihaa
open Go.RowKit Go.Shelf Go.ChangeShapes Go.WideShapes Go.Deep Go.Joins

/-- a walk from the entry -/
structure Wk (E : Nat → List Nat) (n : Nat) (q : List Nat) : Prop where
  pos : 0 < q.length
  hd : q[0]'pos = 0
  st : ∀ i (h : i + 1 < q.length), q[i + 1] ∈ E q[i]
  lt : ∀ x ∈ q, x < n
section
variable {E : Nat → List Nat} {n : Nat} {q : List Nat}
theorem Wk.one (hn : 0 < n) : Wk E n [0] := ⟨by simp, rfl, fun i h => by simp at h, fun x hx => by rw [List.mem_singleton.1 hx]; exact hn⟩
theorem Wk.last (h : Wk E n q) : q.length - 1 < q.length := by have := h.pos; omega
theorem Wk.more (h : Wk E n q) {y : Nat} (hy : y ∈ E (q[q.length - 1]'h.last)) (hn : y < n) : Wk E n (q ++ [y]) := by
  refine ⟨by simp, by rw [List.getElem_append_left h.pos]; exact h.hd, fun i hi => ?_, fun x hx => ?_⟩
  · rw [List.length_append, List.length_singleton] at hi
    by_cases e : i + 1 < q.length
    · rw [List.getElem_append_left e, List.getElem_append_left (by omega)]
      exact h.st i e
    · have e2 : i = q.length - 1 := by have := h.pos; omega
      subst e2
      have h3 := h.pos
      rw [List.getElem_append_left (show q.length - 1 < q.length by omega), List.getElem_append_right (show q.length ≤ q.length - 1 + 1 by omega)]
      simpa using hy
  · rcases List.mem_append.1 hx with hx | hx
    · exact h.lt x hx
    · rw [List.mem_singleton.1 hx]; exact hn
theorem Wk.rch (h : Wk E n q) {X : Nat → Prop} {i : Nat} (hi : i < q.length) : ∀ j (hj : j < q.length), i ≤ j → (∀ t (ht : t < q.length), i ≤ t → t ≤ j → X q[t]) → Rch E X q[i] q[j]
  | 0, hj, hij, hX => by
    have e : i = 0 := by omega
    subst e
    exact .here (hX 0 hj (Nat.le_refl _) (Nat.le_refl _))
  | j + 1, hj, hij, hX => by
    by_cases e : i = j + 1
    · subst e
      exact .here (hX (j + 1) hj (Nat.le_refl _) (Nat.le_refl _))
    · exact .step (h.rch hi j (by omega) (by omega) fun t ht h1 h2 => hX t ht h1 (by omega)) (h.st j hj) (hX (j + 1) hj hij (Nat.le_refl _))
theorem Wk.rea (h : Wk E n q) : Rea E 0 (q[q.length - 1]'h.last) := by
  have := h.rch (X := fun _ => True) h.pos (q.length - 1) h.last (Nat.zero_le _) fun _ _ _ _ => trivial
  rw [h.hd] at this
  exact this
theorem Wk.dom (h : Wk E n q) {a : Nat} (hd : Dom E 0 a (q[q.length - 1]'h.last)) : a ∈ q := by
  apply Classical.byContradiction
  intro hn
  refine hd.2 ?_
  have := h.rch (X := fun x => x ≠ a) h.pos (q.length - 1) h.last (Nat.zero_le _) fun t ht _ _ e => hn (e ▸ List.getElem_mem ht)
  rw [h.hd] at this
  exact this
theorem Wk.post (h : Wk E n q) {B : Nat → List Nat} (hB : ∀ q x, q ∈ B x ↔ x ∈ E q) {a i : Nat} (hi : i < q.length) (hl : q[q.length - 1]'h.last = 1) (hd : Dom B 1 a q[i]) : a ∈ q.drop i := by
  apply Classical.byContradiction
  intro hn
  refine hd.2 (rch_rev (fun q x => (hB x q).symm) ?_)
  have := h.rch (X := fun x => x ≠ a) hi (q.length - 1) h.last (by omega) fun t ht h1 _ e => hn (by
    rw [← e]
    have := List.getElem_mem (l := q.drop i) (n := t - i) (by rw [List.length_drop]; omega)
    rw [List.getElem_drop] at this
    simpa [show i + (t - i) = t from by omega] using this)
  rw [hl] at this
  exact this
end
/-- a slice of bytes that is an argument -/
def U8Arg (w : World) (A : Option Addr) (zs : List Int) : Prop :=
  zs.length ≤ 9223372036854775807 ∧ (0 < zs.length → ∃ b off, A = some ⟨b, off, none⟩ ∧ b < w.heap.size ∧ ∀ (i : Nat) (h : i < zs.length), w.cell? ⟨b, off + i, none⟩ = some (.int .u8 zs[i])) ∧ ∀ x ∈ zs, 0 ≤ x ∧ x ≤ 255
theorem byCells : Try.prog.cellsOf 5 = 1 := by kernel_rfl
set_option maxRecDepth 100000 in
theorem open_u8s {H : Type} {enc : TypeId × Value → H} {W : World} {base : Nat} {v : Value} {d : DataW H} {p : List MemPlace}
    (hv : Value.okWide Try.prog W .any base 42 v) (h : DataW.Trod enc Try.prog W 0 (fun _ => true) true 42 v d p) :
    ∃ (A : Option Addr) (c : Nat) (l : List Int), v = .slice A l.length c ∧ U8Arg W A l := by
  obtain ⟨a, len, cap, rfl⟩ := okWide_slice Try.underlying42 hv
  obtain ⟨fuel, hf⟩ := h
  rcases open_ints Try.underlying42 Try.underlying5 byCells hf with ⟨hcs, hx⟩ | ⟨a', len', cap', zs, hcs, _, hl, hm, hlen, hx, hcell, hwf⟩
  · simp [Value.cells] at hcs
    obtain ⟨rfl, rfl, rfl⟩ := hcs
    exact ⟨none, 0, [], rfl, by simp, fun h0 => absurd h0 (by simp), by simp⟩
  · simp [Value.cells] at hcs
    obtain ⟨rfl, rfl, rfl⟩ := hcs
    have hle : len ≤ zs.length := by rw [hlen]; simp; exact hl
    have hll : (zs.take len).length = len := by rw [List.length_take]; omega
    refine ⟨some a', cap, zs.take len, by rw [hll], by rw [hll]; unfold maxLen at hm; omega, fun h0 => ?_, fun x hx => ?_⟩
    · rw [hll] at h0
      obtain ⟨bk, off, spot⟩ := a'
      have h1 := hcell 0 (by omega)
      have hspot : spot = none := by simpa [Addr.add] using World.cell?_spot h1
      subst hspot
      have hbk : bk < W.heap.size := World.block_lt_of_cell? W _ (by simpa [Addr.add] using h1)
      refine ⟨bk, off, rfl, hbk, fun i hil => ?_⟩
      have h2 := hcell i (by rw [hll] at hil; omega)
      rw [Go.WideShapes.add_plain] at h2
      rw [h2]
      have : i < zs.length := by rw [hll] at hil; omega
      simp [List.getD_eq_getElem?_getD, List.getElem?_eq_getElem this]
    · have hw := hwf x (List.mem_of_mem_take hx)
      simp [Lit.wf, IntKind.min, IntKind.max, IntKind.bits, IntKind.signed] at hw
      omega
theorem contains_any (w : World) (A : Option Addr) (n c : Nat) (xs : List Int) (x : Int) (hn : n = xs.length) (hx : ZRow w.heap.size w A xs) (h0 : 0 < xs.length) (hb : xs.length ≤ 1000000) (hm : x ∈ xs) :
    Calls Try.prog 33 #[.slice A n c, .int .i64 x] w fun e W => e = .returned (.bool true) ∧ W = w := by
  subst hn
  obtain ⟨b, o, rfl, _, g⟩ := hx h0
  refine (Try.slices_Contains_int b o xs.length c xs x w (Nat.le_refl _) (by omega) (fun j hj => by rw [g j hj]; simp [hj])).mono ?_
  rintro e W ⟨rfl, rfl⟩
  rw [List.take_length]
  exact ⟨by congr 2; simpa using hm, rfl⟩
end Go.Proofs.Ytncamhbjndkihaa
