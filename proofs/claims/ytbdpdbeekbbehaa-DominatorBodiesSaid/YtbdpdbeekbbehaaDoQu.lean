/- What is proved: a queue: a slice whose head is cut off and to which numbers are appended. -/
import Derived.Test.YtbdpdbeekbbehaaDoDel
import Derived.Deep.AppendSrc
set_option linter.unusedVariables false
namespace Go.Proofs.Ytbdpdbeekbbehaa
open Go.RowKit Go.Shelf

/-- a queue in memory -/
def Qu (w : World) (B : Nat) (v : Value) (l : List Int) : Prop :=
  ∃ g off cap cur, v = .slice (some ⟨g, off, none⟩) l.length cap ∧ B ≤ g ∧ w.heap[g]? = some (.cells cur 3 (0, 0)) ∧ l.length ≤ cap ∧ cap ≤ maxLen ∧ off + cap ≤ cur.size ∧ (cur.toList.drop off).take l.length = zcells l
theorem Qu.later {w w' : World} {B : Nat} {v : Value} {l : List Int} (h : Qu w B v l) (hb : ∀ g, v.ownBlock = some g → w'.heap[g]? = w.heap[g]?) : Qu w' B v l := by
  obtain ⟨g, off, cap, cur, rfl, h1, h2, h3⟩ := h
  exact ⟨g, off, cap, cur, rfl, h1, (hb g rfl).trans h2, h3⟩
theorem Qu.block {w : World} {B : Nat} {v : Value} {l : List Int} (h : Qu w B v l) {g : Nat} (hg : v.ownBlock = some g) : B ≤ g ∧ g < w.heap.size ∧ ∃ cs, w.heap[g]? = some (.cells cs 3 (0, 0)) := by
  obtain ⟨g', off, cap, cur, rfl, h1, h2, h3⟩ := h
  cases hg
  exact ⟨h1, hlt h2, cur, h2⟩
theorem Qu.one (w : World) (x : Int) {B : Nat} (hB : B ≤ w.heap.size) : Qu (w.alloc (.cells #[.int .i64 x] 3)) B (.slice (some ⟨w.heap.size, 0, none⟩) 1 1) [x] :=
  ⟨w.heap.size, 0, 1, _, rfl, hB, heap_alloc_new w _, Nat.le_refl _, by decide, Nat.le_refl _, rfl⟩
/-- the head, and what is left -/
theorem Qu.head {w : World} {B : Nat} {v : Value} {x : Int} {l : List Int} (h : Qu w B v (x :: l)) : ∃ g off cap, v = .slice (some ⟨g, off, none⟩) (l.length + 1) cap ∧ l.length + 1 ≤ cap ∧ w.cell? ⟨g, off, none⟩ = some (.int .i64 x) ∧ Qu w B (.slice (some ⟨g, off + 1, none⟩) l.length (cap - 1)) l ∧ (cap = 1 → l = [] ∧ Qu w B (.slice (some ⟨g, off, none⟩) 0 0) []) := by
  obtain ⟨g, off, cap, cur, rfl, h1, h2, h3, h4, h5, h6⟩ := h
  simp only [List.length_cons] at h3 h6
  have hd : (cur.toList.drop off).take (l.length + 1) = Value.int .i64 x :: zcells l := h6
  have h0 : cur.toList[off]? = some (.int .i64 x) := by
    have e : ((cur.toList.drop off).take (l.length + 1))[0]? = some (.int .i64 x) := by rw [hd]; rfl
    rw [List.getElem?_take_of_lt (by omega), List.getElem?_drop] at e
    simpa using e
  have ht : (cur.toList.drop (off + 1)).take l.length = zcells l := by
    have e := congrArg List.tail hd
    rw [List.tail_cons] at e
    rw [← e, ← List.drop_one, List.drop_take, List.drop_drop]
    simp
  exact ⟨g, off, cap, rfl, h3, by rw [Lib.cell_of_heap h2 off]; simpa using h0, ⟨g, off + 1, cap - 1, cur, rfl, h1, h2, by omega, by omega, by omega, ht⟩, fun hc => ⟨List.length_eq_zero_iff.1 (by omega), g, off, 0, cur, rfl, h1, h2, by simp, by omega, by omega, by simp [zcells]⟩⟩
/-- one number more -/
theorem Qu.push {w : World} {B : Nat} {v : Value} {l : List Int} (h : Qu w B v l) (x : Int) {nb : Nat} (hn : w.heap[nb]? = some (.cells #[.int .i64 x] 3 (0, 0))) (hl : l.length ≤ 1000000) (hB : B ≤ w.heap.size) :
    ∃ v' w', (Builtin.append_ #[29, 29] 29 #[v, .slice (some ⟨nb, 0, none⟩) 1 1]).run Try.prog w = .ok v' w' ∧ Qu w' B v' (l ++ [x]) ∧ w.grownBy w' v.ownBlock := by
  obtain ⟨i0, hi0, hz0, hz1, hz2⟩ := info_parts infoInt
  have hsrc : Src Try.prog i0.size 29 (.slice (some ⟨nb, 0, none⟩) 1 1) 1 [.int .i64 x] w := by
    rw [hz1]
    exact Src.ofSlice (P := Try.prog) (w := w) (size := 1) (tx := 29) (e' := 3) Try.underlying29 ⟨nb, 0, none⟩ 1 1 [.int .i64 x] rfl (World.news_of_block (cs := #[.int .i64 x]) hn) (by simp [Value.oneCell'])
  obtain ⟨g, off, cap, cur, rfl, h1, h2, h3, h4, h5, h6⟩ := h
  by_cases hr : l.length + 1 ≤ cap
  · have hrun := run_append_room_src (P := Try.prog) w 29 29 29 3 i0 Try.underlying29 hi0 g off l.length cap _ 1 [.int .i64 x] hsrc hr (fun j hj => by
        have hj0 : j < 1 := by simpa using hj
        rw [Lib.cell_of_heap h2]
        have hlt' : off + l.length * i0.size + j < cur.size := by rw [hz1]; omega
        rw [Array.getElem?_eq_getElem hlt']
        rfl) (fun j _ => hfrz h2 _)
    rw [hz1, Nat.mul_one] at hrun
    refine ⟨_, _, hrun, ⟨g, off, cap, cur.setIfInBounds (off + l.length) (.int .i64 x), by simp, h1, hset h2 _, by simpa using hr, h4, by simpa using h5, ?_⟩, ?_⟩
    · rw [Array.toList_setIfInBounds, List.length_append, List.length_singleton, zcells_append]
      have hlen : off + l.length < cur.toList.length := by have e : cur.toList.length = cur.size := Array.length_toList; omega
      have hdl : l.length < (cur.toList.drop off).length := by rw [List.length_drop]; omega
      rw [List.drop_set, if_neg (by omega), show off + l.length - off = l.length from by omega, List.take_succ_eq_append_getElem (by rw [List.length_set]; exact hdl), List.take_set_of_le (Nat.le_refl _), h6, List.getElem_set_self]
      simp [zcells]
    · exact ⟨rfl, rfl, rfl, by simp [World.setCells], fun k hk hne => by
        show (w.setCell ⟨g, off + l.length, none⟩ (.int .i64 x)).heap[k]? = _
        exact hfar (by simp; intro e; exact hne (by simp [Value.ownBlock, e])) _⟩
  · have hce : cap = l.length := by omega
    have hold := run_firstCells_some (P := Try.prog) w.drew i0.size l.length ⟨g, off, none⟩ l.length cap (zcells l) (by rw [zcells_len, hz1, Nat.mul_one]) (fun j u hj => by
      have hj2 : j < l.length := by
        have := (List.getElem?_eq_some_iff.1 hj).1
        rw [zcells_len] at this
        exact this
      rw [Go.WideShapes.add_plain]
      show w.cell? ⟨g, off + j, none⟩ = some u
      rw [Lib.cell_of_heap h2, ← Array.getElem?_toList, ← hj, ← h6, List.getElem?_take_of_lt hj2, List.getElem?_drop])
    have hrun := run_append_grow_src (P := Try.prog) w 29 29 29 3 i0 _ Try.underlying29 hi0 hz0 (some ⟨g, off, none⟩) l.length cap (zcells l) hold _ 1 _ hsrc (by omega) (by omega) (growslice_fits (by omega) (by rw [hz2]; omega))
    have hge := grownCap_ge w (l.length + 1) cap 3
    have hcm : grownCap w (l.length + 1) cap 3 ≤ maxLen := grownCap_le_maxLen w (l.length + 1) cap 3 (by unfold maxLen; omega)
    refine ⟨_, _, hrun, ⟨w.heap.size, 0, grownCap w (l.length + 1) cap 3, _, by simp, hB, heap_alloc_new w.drew _, by simpa using hge, hcm, ?_, ?_⟩, ?_⟩
    · simp only [Array.size_append, List.size_toArray, size_zeroCells, List.length_append, zcells_len, List.length_singleton, Value.cells]
      simp
      omega
    · simp only [Array.toList_append, List.drop_zero]
      rw [List.take_append_of_le_length (by simp [zcells]), List.take_of_length_le (by simp [zcells])]
      simp [zcells]
    · exact ⟨rfl, rfl, rfl, by simp, fun k hk _ => heap_alloc_old w.drew _ hk⟩
end Go.Proofs.Ytbdpdbeekbbehaa
