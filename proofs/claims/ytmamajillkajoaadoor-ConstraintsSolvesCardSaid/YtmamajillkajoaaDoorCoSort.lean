/- What is proved: a row of integers, sorted or turned around by the library. -/
import Derived.Test.YtmamajillkajoaaDoorCoClasses
import Derived.Test.YtmamajillkajoaaDoorShelf
set_option linter.unusedVariables false
namespace Go.Proofs.YtmamajillkajoaaDoor
open Go.RowKit Go.Sort

def toI (l : List Nat) : List Int := l.map (fun (x : Nat) => (x : Int))
theorem toI_enc (l : List Nat) : (toI l).map (Value.int .i64) = ints l := by simp [toI, ints]
theorem putCells_ints {cur : Array Value} {l l' : List Nat} (hl : l'.length = l.length) (hc : l.length ≤ cur.size) : (putCells (Value.int .i64) 0 (toI l').toArray cur).toList.take l'.length = ints l' := by
  apply List.ext_getElem
  · simp [putCells, ints, hl]; omega
  · intro i h1 h2
    have hi : i < l'.length := by simpa [ints] using h2
    have hi2 : i < (toI l').length := by simpa [toI] using hi
    simp only [putCells, List.getElem_take, Array.getElem_toList, Array.getElem_mapIdx]
    rw [if_pos ⟨Nat.zero_le _, by simpa [toI] using hi⟩]
    simp [toI, ints, hi]
theorem row_put {w : World} {B blk c n : Nat} {os : Array Obj} {l l' : List Nat} (h : IOwn w B (.slice (some ⟨blk, 0, none⟩) l.length c) l) (hl : l'.length = l.length) :
    IOwn (grow (putRow (Value.int .i64) (Sort.ahead w n) blk 0 (toI l').toArray) os) B (.slice (some ⟨blk, 0, none⟩) l'.length c) l' ∧ w.heap.size ≤ (grow (putRow (Value.int .i64) (Sort.ahead w n) blk 0 (toI l').toArray) os).heap.size ∧ (∀ b, b < w.heap.size → b ≠ blk → (grow (putRow (Value.int .i64) (Sort.ahead w n) blk 0 (toI l').toArray) os).heap[b]? = w.heap[b]?) ∧ Below B w (grow (putRow (Value.int .i64) (Sort.ahead w n) blk 0 (toI l').toArray) os) := by
  rcases h.2 with ⟨h1, h2⟩ | ⟨g, cap, cur, h1, h2, h3, h4, h5, h6, h7⟩
  · cases h1
  · cases h1
    have hlt : blk < w.heap.size := (Array.getElem?_eq_some_iff.1 h3).1
    have hheap : (grow (putRow (Value.int .i64) (Sort.ahead w n) blk 0 (toI l').toArray) os).heap = (w.heap.modify blk (onCells (putCells (Value.int .i64) 0 (toI l').toArray))) ++ os := rfl
    have hoth : ∀ b, b < w.heap.size → b ≠ blk → (grow (putRow (Value.int .i64) (Sort.ahead w n) blk 0 (toI l').toArray) os).heap[b]? = w.heap[b]? := fun b hb hne => by
      rw [hheap, Array.getElem?_append, if_pos (by simpa using hb), Array.getElem?_modify, if_neg (Ne.symm hne)]
    have hsz : w.heap.size ≤ (grow (putRow (Value.int .i64) (Sort.ahead w n) blk 0 (toI l').toArray) os).heap.size := by rw [hheap]; simp
    have hblk : (grow (putRow (Value.int .i64) (Sort.ahead w n) blk 0 (toI l').toArray) os).heap[blk]? = some (.cells (putCells (Value.int .i64) 0 (toI l').toArray cur) 3 (0, 0)) := by
      rw [hheap, Array.getElem?_append, if_pos (by simpa using hlt), Array.getElem?_modify, if_pos rfl, h3]
      rfl
    refine ⟨⟨by rw [ints_len]; omega, .inr ⟨blk, c, _, rfl, h2, hblk, by omega, h5, by simp [putCells, h6], ?_⟩⟩, hsz, hoth, ⟨rfl, rfl, rfl, hsz, fun k hk => hoth k (by omega) (by omega)⟩⟩
    rw [Nat.mul_one]
    exact putCells_ints hl (by omega)
theorem holds_own {w : World} {B blk c : Nat} {l : List Nat} (h : IOwn w B (.slice (some ⟨blk, 0, none⟩) l.length c) l) : Holds (Value.int .i64) w blk 0 (toI l).toArray := by
  intro j hj
  have hj2 : j < l.length := by simpa [toI] using hj
  have hc := World.ownsRow.cells h (g := blk) rfl
  have e : (ints l)[j]? = some (.int .i64 ((l[j] : Nat) : Int)) := by simp [ints, hj2]
  have a := hc _ _ e
  rw [co_add] at a
  obtain ⟨_, _, cs, h3⟩ := own_block' h (b := blk) rfl
  exact ⟨by rw [Nat.zero_add, a]; simp [toI, hj2], hfrz h3 _⟩
/-- sorted -/
theorem ins_perm (x : Nat) (l : List Nat) : (insN x l).Perm (x :: l) := by
  induction l with
  | nil => exact List.Perm.refl _
  | cons y ys ih =>
    simp only [insN]
    split
    · exact List.Perm.refl _
    · exact (ih.cons y).trans (List.Perm.swap x y ys)
theorem srt_perm (l : List Nat) : (srtN l).Perm l := by
  induction l with
  | nil => exact List.Perm.refl _
  | cons x xs ih => exact (ins_perm x _).trans (ih.cons x)
theorem ins_sorted (x : Nat) {l : List Nat} (h : l.Pairwise (· ≤ ·)) : (insN x l).Pairwise (· ≤ ·) := by
  induction l with
  | nil => simp [insN]
  | cons y ys ih =>
    rw [List.pairwise_cons] at h
    simp only [insN]
    split
    · rename_i hxy
      rw [List.pairwise_cons]
      refine ⟨fun z hz => ?_, by rw [List.pairwise_cons]; exact h⟩
      rcases List.mem_cons.1 hz with rfl | hz
      · exact hxy
      · exact Nat.le_trans hxy (h.1 z hz)
    · rename_i hxy
      rw [List.pairwise_cons]
      refine ⟨fun z hz => ?_, ih h.2⟩
      have hz2 := (ins_perm x ys).mem_iff.1 hz
      rcases List.mem_cons.1 hz2 with rfl | hz2
      · omega
      · exact h.1 z hz2
theorem srt_sorted (l : List Nat) : (srtN l).Pairwise (· ≤ ·) := by
  induction l with
  | nil => exact List.Pairwise.nil
  | cons x xs ih => exact ins_sorted x ih
theorem sort_toI (l : List Nat) : (toI l).mergeSort (fun x y => decide (x ≤ y)) = toI (srtN l) := by
  refine List.Perm.eq_of_pairwise (le := fun a b => decide (a ≤ b) = true) (fun a b _ _ h1 h2 => by simp only [decide_eq_true_eq] at h1 h2; omega) (List.pairwise_mergeSort (fun a b c h1 h2 => by simp only [decide_eq_true_eq] at *; omega) (fun a b => by simp only [Bool.or_eq_true, decide_eq_true_eq]; omega) _) ?_ ((List.mergeSort_perm _ _).trans ((srt_perm l).symm.map _))
  unfold toI
  rw [List.pairwise_map]
  exact (srt_sorted l).imp fun h => by simp only [decide_eq_true_eq]; omega
theorem sort_own {w : World} {B c n : Nat} {X : Option Addr} {l : List Nat} (hn : n = l.length) (h : IOwn w B (.slice X n c) l) (hl : n ≤ 4000000000000) :
    Calls Tryd.prog 43 #[.slice X n c] w fun e w' => e = .returned (.tuple #[]) ∧ IOwn w' B (.slice X n c) (srtN l) ∧ w.heap.size ≤ w'.heap.size ∧ (∀ b, b < w.heap.size → some b ≠ (Value.slice X n c).ownBlock → w'.heap[b]? = w.heap[b]?) ∧ Below B w w' := by
  subst hn
  have hlen : (srtN l).length = l.length := (srt_perm l).length_eq
  rcases Nat.eq_zero_or_pos l.length with h0 | h0
  · have hnil : l = [] := List.length_eq_zero_iff.1 h0
    subst hnil
    exact (Tryd.slices_Sort_int_none X c w).mono fun e w' he => ⟨he.1, by rw [he.2]; exact h, by rw [he.2]; exact Nat.le_refl _, fun b _ _ => by rw [he.2], by rw [he.2]; exact Below.refl _ _⟩
  · obtain ⟨blk, cap, hv, hlo, hlt⟩ := World.ownsRow.form h h0
    cases hv
    have hz : (toI l).length = l.length := by simp [toI]
    have hS := Tryd.slices_Sort_int blk 0 c (toI l) w (holds_own h) hlt (by rw [hz]; omega)
    rw [hz, sort_toI] at hS
    refine hS.mono fun e w' he => ?_
    obtain ⟨rfl, k, os, rfl⟩ := he
    obtain ⟨q1, q2, q3, q4⟩ := row_put (n := k) (os := os) h hlen
    exact ⟨rfl, by rw [hlen] at q1; exact q1, q2, fun b hb hne => q3 b hb (fun e => hne (by rw [e]; rfl)), q4⟩
theorem rev_own {w : World} {B c n : Nat} {X : Option Addr} {l : List Nat} (hn : n = l.length) (h : IOwn w B (.slice X n c) l) (hl : n ≤ 4000000000000) :
    Calls Tryd.prog 47 #[.slice X n c] w fun e w' => e = .returned (.tuple #[]) ∧ IOwn w' B (.slice X n c) l.reverse ∧ w.heap.size ≤ w'.heap.size ∧ (∀ b, b < w.heap.size → some b ≠ (Value.slice X n c).ownBlock → w'.heap[b]? = w.heap[b]?) ∧ Below B w w' := by
  subst hn
  rcases Nat.eq_zero_or_pos l.length with h0 | h0
  · have hnil : l = [] := List.length_eq_zero_iff.1 h0
    subst hnil
    exact (Tryd.slices_Reverse_int_empty X c w).mono fun e w' he => ⟨he.1, by rw [he.2]; exact h, by rw [he.2]; exact Nat.le_refl _, fun b _ _ => by rw [he.2], by rw [he.2]; exact Below.refl _ _⟩
  · obtain ⟨blk, cap, hv, hlo, hlt⟩ := World.ownsRow.form h h0
    cases hv
    have hz : (toI l).length = l.length := by simp [toI]
    have hr : (toI l).reverse = toI l.reverse := by simp [toI]
    have hS := Tryd.slices_Reverse_int blk 0 c (toI l) w (holds_own h) (by rw [hz]; omega)
    rw [hz, hr] at hS
    refine hS.mono fun e w' he => ?_
    obtain ⟨rfl, k, hw⟩ := he
    have hw2 : w' = grow (putRow (Value.int .i64) (Sort.ahead w k) blk 0 (toI l.reverse).toArray) #[] := by rw [hw, grow_empty]
    subst hw2
    obtain ⟨q1, q2, q3, q4⟩ := row_put (n := k) (os := #[]) (l' := l.reverse) h (by simp)
    exact ⟨rfl, by simpa using q1, q2, fun b hb hne => q3 b hb (fun e => hne (by rw [e]; rfl)), q4⟩
end Go.Proofs.YtmamajillkajoaaDoor
