/- What is proved: a list of constraints turned round: append(append([]Constraint{}, l[k:]...), l[:k]...). -/
import Derived.Test.YtmamajillkajoaaCoAwake
import Derived.Laws.AppendOwn
set_option linter.unusedVariables false
namespace Go.Proofs.Ytmamajillkajoaa
open Go.RowKit Go.Shelf

theorem ccs_append : ∀ (l m : List Con), ccs (l ++ m) = ccs l ++ ccs m
  | [], m => rfl
  | x :: xs, m => by simp [ccs, ccs_append xs m]
theorem ccs_len : ∀ (l : List Con), (ccs l).length = l.length * 8
  | [] => rfl
  | x :: xs => by simp [ccs, ccs_len xs]; omega
theorem ccs_one : ∀ (l : List Con), ∀ u ∈ ccs l, u.oneCell' = true
  | [], u, hu => by simp [ccs] at hu
  | x :: xs, u, hu => by
    simp only [ccs, List.mem_cons] at hu
    rcases hu with rfl | rfl | rfl | rfl | rfl | rfl | rfl | rfl | hu
    all_goals first | rfl | exact ccs_one xs u hu
theorem ccs_news {w : World} {b off : Nat} {l : List Con} (h : ∀ (i : Nat) (hi : i < l.length), CCells w b (off + i * 8) l[i]) : ∀ j u, (ccs l)[j]? = some u → w.cell? ((⟨b, off, none⟩ : Addr).add j) = some u := by
  intro j u hj
  have hjl : j < l.length * 8 := by rw [← ccs_len]; exact (List.getElem?_eq_some_iff.1 hj).1
  obtain ⟨i, r, hr, rfl⟩ : ∃ i r, r < 8 ∧ j = i * 8 + r := ⟨j / 8, j % 8, by omega, by omega⟩
  have hi : i < l.length := by omega
  obtain ⟨g0, g1, g2, g3, g4, g5, g6, g7⟩ := ccs_get l i hi
  obtain ⟨c0, c1, c2, c3, c4, c5, c6, c7⟩ := h i hi
  rw [Go.WideShapes.add_plain, ← Nat.add_assoc, ← hj]
  match r, hr with
  | 0, _ => exact c0.trans g0.symm
  | 1, _ => exact c1.trans g1.symm
  | 2, _ => exact c2.trans g2.symm
  | 3, _ => exact c3.trans g3.symm
  | 4, _ => exact c4.trans g4.symm
  | 5, _ => exact c5.trans g5.symm
  | 6, _ => exact c6.trans g6.symm
  | 7, _ => exact c7.trans g7.symm

/-- a slice of constraints that is owned -/
def COwn (w : World) (B : Nat) (v : Value) (l : List Con) : Prop := w.ownsRow B 36 8 v l.length (ccs l)
abbrev emptyC (w : World) : Value := .slice (some ⟨w.heap.size, 0, none⟩) 0 0
theorem cown_empty (w : World) : COwn (w.alloc (.cells #[] 36)) w.heap.size (emptyC w) [] :=
  ⟨rfl, .inr ⟨w.heap.size, 0, #[], rfl, Nat.le_refl _, heap_alloc_new w _, Nat.le_refl _, by unfold maxLen; omega, rfl, rfl⟩⟩
theorem c_append (w : World) (B : Nat) (v : Value) (l : List Con) (hown : COwn w B v l) (b off c n2 : Nat) (l2 : List Con) (hn : l2.length = n2) (hrow : ∀ (i : Nat) (hi : i < l2.length), CCells w b (off + i * 8) l2[i]) (hb : l.length + n2 ≤ 1000000000) (hB : B ≤ w.heap.size) :
    ∃ v' w', (Builtin.append_ #[26, 26] 26 #[v, .slice (some ⟨b, off, none⟩) n2 c]).run Try.prog w = .ok v' w' ∧ COwn w' B v' (l ++ l2) ∧ w.grownBy w' v.ownBlock := by
  subst hn
  obtain ⟨i0, hi0, hz0, hz1, hz2⟩ := info_parts infoCon
  obtain ⟨v', w', h1, h2, h3, _⟩ := run_append_own (P := Try.prog) w B 26 26 36 i0 _ 8 72 Try.underlying26 hi0 hz0 hz1 hz2 rfl (by decide) v l.length (ccs l) hown ⟨b, off, none⟩ l2.length c (ccs l2) (ccs_len _) (ccs_news hrow) (ccs_one _) (by unfold maxLen; omega) (by omega) hB
  refine ⟨v', w', h1, ?_, h3⟩
  unfold COwn
  rw [List.length_append, ccs_append]
  exact h2
theorem COwn.row {w : World} {B : Nat} {v : Value} {l : List Con} (h : COwn w B v l) (h0 : 0 < l.length) : ∃ R cap, v = .slice (some ⟨R, 0, none⟩) l.length cap ∧ CRow w.heap.size w (some ⟨R, 0, none⟩) l := by
  rcases h.2 with ⟨_, h1⟩ | ⟨g, cap, cur, h1, h2, h3, h4, h5, h6, h7⟩
  · omega
  · refine ⟨g, cap, h1, fun _ => ⟨g, 0, rfl, (Array.getElem?_eq_some_iff.1 h3).1, fun i hi => ?_⟩⟩
    have q : ∀ k, k < l.length * 8 → w.cell? ⟨g, k, none⟩ = (ccs l)[k]? := fun k hk => by
      rw [← h7, List.getElem?_take, if_pos hk, Array.getElem?_toList]
      exact Lib.cell_of_heap h3 k
    obtain ⟨g0, g1, g2, g3, g4, g5, g6, g7⟩ := ccs_get l i hi
    rw [Nat.zero_add]
    exact ⟨(q _ (by omega)).trans g0, (q _ (by omega)).trans g1, (q _ (by omega)).trans g2, (q _ (by omega)).trans g3, (q _ (by omega)).trans g4, (q _ (by omega)).trans g5, (q _ (by omega)).trans g6, (q _ (by omega)).trans g7⟩
theorem rot_run (w W : World) (b off c k : Nat) (l : List Con) (hk : k < l.length) (hl : l.length ≤ 1000000) (hba : Below w.heap.size w W) (hE : W.heap[w.heap.size]? = some (.cells #[] 36 (0, 0))) (hrow : CRow w.heap.size w (some ⟨b, off, none⟩) l) :
    ∃ v1 w1 R cap w2, (Builtin.append_ #[26, 26] 26 #[emptyC w, .slice (some ⟨b, off + k * 8, none⟩) (l.length - k) (c - k)]).run Try.prog W = .ok v1 w1 ∧
      (Builtin.append_ #[26, 26] 26 #[v1, .slice (some ⟨b, off, none⟩) k c]).run Try.prog w1 = .ok (.slice (some ⟨R, 0, none⟩) l.length cap) w2 ∧ CRow w2.heap.size w2 (some ⟨R, 0, none⟩) (l.drop k ++ l.take k) ∧ Below w.heap.size w w2 := by
  obtain ⟨b', off', e, hlt, hc⟩ := hrow (by omega)
  cases e
  have hWz : w.heap.size < W.heap.size := (Array.getElem?_eq_some_iff.1 hE).1
  obtain ⟨v1, w1, r1, o1, g1⟩ := c_append W w.heap.size (emptyC w) [] ⟨rfl, .inr ⟨w.heap.size, 0, #[], rfl, Nat.le_refl _, hE, Nat.le_refl _, by unfold maxLen; omega, rfl, rfl⟩⟩ b (off + k * 8) (c - k) (l.length - k) (l.drop k) (by simp) (fun i hi => by
    have h := (hc (k + i) (by simp at hi; omega)).below hba hlt
    rw [List.getElem_drop]
    rw [show off + k * 8 + i * 8 = off + (k + i) * 8 by omega]
    exact h) (by simp; omega) (by omega)
  have hb1 : Below w.heap.size w w1 := hba.grown g1 (by omega) (fun x e => by
    have : x = w.heap.size := by simpa [emptyC, Value.ownBlock] using e.symm
    omega)
  obtain ⟨v2, w2, r2, o2, g2⟩ := c_append w1 w.heap.size v1 ([] ++ l.drop k) o1 b off c k (l.take k) (by rw [List.length_take]; omega) (fun i hi => by
    have hik : i < l.length := by rw [List.length_take] at hi; omega
    rw [List.getElem_take]
    exact (hc i hik).below hb1 hlt) (by simp; omega) hb1.size
  rw [List.nil_append] at o1 o2
  have hlen : (l.drop k ++ l.take k).length = l.length := by simp; omega
  obtain ⟨R, cap, rfl, hcr⟩ := o2.row (by omega)
  rw [hlen] at r2
  refine ⟨v1, w1, R, cap, w2, r1, r2, hcr, hb1.grown g2 hb1.size (fun x e => ?_)⟩
  rcases o1.2 with ⟨h1, _⟩ | ⟨g, cp, cur, h1, h2, _⟩
  · rw [h1] at e; cases e
  · rw [h1] at e
    have : x = g := by simpa [Value.ownBlock] using e.symm
    omega
theorem rot_mem (l : List Con) (k : Nat) (c : Con) : c ∈ l.drop k ++ l.take k ↔ c ∈ l := by
  rw [List.mem_append, or_comm, ← List.mem_append, List.take_append_drop]
end Go.Proofs.Ytmamajillkajoaa
