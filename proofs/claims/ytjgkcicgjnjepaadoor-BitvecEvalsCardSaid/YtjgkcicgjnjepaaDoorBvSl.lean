/- What is proved: a row of integers, sorted, turned around, or freed of repetitions by the library. -/
import Derived.Test.YtjgkcicgjnjepaaDoorBvBase
import Derived.Test.YtjgkcicgjnjepaaDoorShelf
set_option linter.unusedVariables false
namespace Go.Proofs.YtjgkcicgjnjepaaDoor
open Go.RowKit Go.Sort

def srtZ (l : List Int) : List Int := l.mergeSort (fun x y => decide (x ≤ y))
theorem putCells_zs {cur : Array Value} {l l' : List Int} (hl : l'.length = l.length) (hc : l.length ≤ cur.size) : (putCells (Value.int .i64) 0 l'.toArray cur).toList.take l'.length = zcells l' := by
  apply List.ext_getElem
  · simp [putCells, zcells, hl]; omega
  · intro i h1 h2
    have hi : i < l'.length := by simpa [zcells] using h2
    have hi2 : i < l'.length := by simpa  using hi
    simp only [putCells, List.getElem_take, Array.getElem_toList, Array.getElem_mapIdx]
    rw [if_pos ⟨Nat.zero_le _, by simpa  using hi⟩]
    simp [zcells, hi]
theorem row_put {w : World} {B blk c n : Nat} {os : Array Obj} {l l' : List Int} (h : ZOwn w B (.slice (some ⟨blk, 0, none⟩) l.length c) l) (hl : l'.length = l.length) :
    ZOwn (grow (putRow (Value.int .i64) (Sort.ahead w n) blk 0 l'.toArray) os) B (.slice (some ⟨blk, 0, none⟩) l'.length c) l' ∧ w.heap.size ≤ (grow (putRow (Value.int .i64) (Sort.ahead w n) blk 0 l'.toArray) os).heap.size ∧ (∀ b, b < w.heap.size → b ≠ blk → (grow (putRow (Value.int .i64) (Sort.ahead w n) blk 0 l'.toArray) os).heap[b]? = w.heap[b]?) ∧ Below B w (grow (putRow (Value.int .i64) (Sort.ahead w n) blk 0 l'.toArray) os) := by
  rcases h.2 with ⟨h1, h2⟩ | ⟨g, cap, cur, h1, h2, h3, h4, h5, h6, h7⟩
  · cases h1
  · cases h1
    have hlt : blk < w.heap.size := (Array.getElem?_eq_some_iff.1 h3).1
    have hheap : (grow (putRow (Value.int .i64) (Sort.ahead w n) blk 0 l'.toArray) os).heap = (w.heap.modify blk (onCells (putCells (Value.int .i64) 0 l'.toArray))) ++ os := rfl
    have hoth : ∀ b, b < w.heap.size → b ≠ blk → (grow (putRow (Value.int .i64) (Sort.ahead w n) blk 0 l'.toArray) os).heap[b]? = w.heap[b]? := fun b hb hne => by
      rw [hheap, Array.getElem?_append, if_pos (by simpa using hb), Array.getElem?_modify, if_neg (Ne.symm hne)]
    have hsz : w.heap.size ≤ (grow (putRow (Value.int .i64) (Sort.ahead w n) blk 0 l'.toArray) os).heap.size := by rw [hheap]; simp
    have hblk : (grow (putRow (Value.int .i64) (Sort.ahead w n) blk 0 l'.toArray) os).heap[blk]? = some (.cells (putCells (Value.int .i64) 0 l'.toArray cur) 3 (0, 0)) := by
      rw [hheap, Array.getElem?_append, if_pos (by simpa using hlt), Array.getElem?_modify, if_pos rfl, h3]
      rfl
    refine ⟨⟨by rw [zcells_len]; omega, .inr ⟨blk, c, _, rfl, h2, hblk, by omega, h5, by simp [putCells, h6], ?_⟩⟩, hsz, hoth, ⟨rfl, rfl, rfl, hsz, fun k hk => hoth k (by omega) (by omega)⟩⟩
    rw [Nat.mul_one]
    exact putCells_zs hl (by omega)
theorem holds_own {w : World} {B blk c : Nat} {l : List Int} (h : ZOwn w B (.slice (some ⟨blk, 0, none⟩) l.length c) l) : Holds (Value.int .i64) w blk 0 l.toArray := by
  intro j hj
  have hj2 : j < l.length := by simpa  using hj
  have hc := World.ownsRow.cells h (g := blk) rfl
  have e : (zcells l)[j]? = some (.int .i64 l[j]) := by simp [zcells, hj2]
  have a := hc _ _ e
  rw [do_add] at a
  obtain ⟨_, _, cs, h3⟩ := own_block' h (b := blk) rfl
  exact ⟨by rw [Nat.zero_add, a]; simp [hj2], hfrz h3 _⟩
theorem sort_own {w : World} {B c n : Nat} {X : Option Addr} {l : List Int} (hn : n = l.length) (h : ZOwn w B (.slice X n c) l) (hl : n ≤ 4000000000000) :
    Calls Tryd.prog 31 #[.slice X n c] w fun e w' => e = .returned (.tuple #[]) ∧ ZOwn w' B (.slice X n c) (srtZ l) ∧ w.heap.size ≤ w'.heap.size ∧ (∀ b, b < w.heap.size → some b ≠ (Value.slice X n c).ownBlock → w'.heap[b]? = w.heap[b]?) ∧ Below B w w' := by
  subst hn
  have hlen : (srtZ l).length = l.length := List.length_mergeSort l
  rcases Nat.eq_zero_or_pos l.length with h0 | h0
  · have hnil : l = [] := List.length_eq_zero_iff.1 h0
    subst hnil
    have e0 : srtZ [] = [] := by simp [srtZ]
    rw [e0]
    exact (Tryd.slices_Sort_int_none X c w).mono fun e w' he => ⟨he.1, by rw [he.2]; exact h, by rw [he.2]; exact Nat.le_refl _, fun b _ _ => by rw [he.2], by rw [he.2]; exact Below.refl _ _⟩
  · obtain ⟨blk, cap, hv, hlo, hlt⟩ := World.ownsRow.form h h0
    cases hv
    have hS := Tryd.slices_Sort_int blk 0 c l w (holds_own h) hlt (by omega)
    refine hS.mono fun e w' he => ?_
    obtain ⟨rfl, k, os, rfl⟩ := he
    obtain ⟨q1, q2, q3, q4⟩ := row_put (n := k) (os := os) h hlen
    exact ⟨rfl, by rw [hlen] at q1; exact q1, q2, fun b hb hne => q3 b hb (fun e => hne (by rw [e]; rfl)), q4⟩
theorem srtZ_eq {l m : List Int} (hp : l.Perm m) (hs : m.Pairwise (· ≤ ·)) : srtZ l = m := by
  refine List.Perm.eq_of_pairwise (le := fun a b => decide (a ≤ b) = true) (fun a b _ _ h1 h2 => by simp only [decide_eq_true_eq] at h1 h2; omega) (List.pairwise_mergeSort (fun a b c h1 h2 => by simp only [decide_eq_true_eq] at *; omega) (fun a b => by simp only [Bool.or_eq_true, decide_eq_true_eq]; omega) l) (hs.imp fun h => by simpa using h) ((List.mergeSort_perm l _).trans hp)
theorem rev_own {w : World} {B c n : Nat} {X : Option Addr} {l : List Int} (hn : n = l.length) (h : ZOwn w B (.slice X n c) l) (hl : n ≤ 4000000000000) :
    Calls Tryd.prog 37 #[.slice X n c] w fun e w' => e = .returned (.tuple #[]) ∧ ZOwn w' B (.slice X n c) l.reverse ∧ w.heap.size ≤ w'.heap.size ∧ (∀ b, b < w.heap.size → some b ≠ (Value.slice X n c).ownBlock → w'.heap[b]? = w.heap[b]?) ∧ Below B w w' := by
  subst hn
  rcases Nat.eq_zero_or_pos l.length with h0 | h0
  · have hnil : l = [] := List.length_eq_zero_iff.1 h0
    subst hnil
    exact (Tryd.slices_Reverse_int_empty X c w).mono fun e w' he => ⟨he.1, by rw [he.2]; exact h, by rw [he.2]; exact Nat.le_refl _, fun b _ _ => by rw [he.2], by rw [he.2]; exact Below.refl _ _⟩
  · obtain ⟨blk, cap, hv, hlo, hlt⟩ := World.ownsRow.form h h0
    cases hv
    refine (Tryd.slices_Reverse_int blk 0 c l w (holds_own h) (by omega)).mono fun e w' he => ?_
    obtain ⟨rfl, k, hw⟩ := he
    have hw2 : w' = grow (putRow (Value.int .i64) (Sort.ahead w k) blk 0 l.reverse.toArray) #[] := by rw [hw, grow_empty]
    subst hw2
    obtain ⟨q1, q2, q3, q4⟩ := row_put (n := k) (os := #[]) (l' := l.reverse) h (by simp)
    exact ⟨rfl, by simpa using q1, q2, fun b hb hne => q3 b hb (fun e => hne (by rw [e]; rfl)), q4⟩
theorem ZOwn.cut {w : World} {B g n c : Nat} {l : List Int} (hn : n = l.length) (h : ZOwn w B (.slice (some ⟨g, 0, none⟩) n c) l) {i : Nat} (hi : i ≤ l.length) : ZOwn w B (.slice (some ⟨g, 0, none⟩) i c) (l.take i) := by
  subst hn
  rcases h.2 with ⟨h1, _⟩ | ⟨g', cap, cur, h1, h2, h3, h4, h5, h6, h7⟩
  · cases h1
  · cases h1
    have e : (l.take i).length = i := by rw [List.length_take]; omega
    refine ⟨by simp [zcells], .inr ⟨g, c, _, by rw [e], h2, h3, by omega, h5, h6, ?_⟩⟩
    rw [Nat.mul_one] at h7
    rw [e, Nat.mul_one, show cur.toList.take i = (cur.toList.take l.length).take i from by rw [List.take_take]; congr 1; omega, h7]
    simp [zcells, List.map_take]
theorem compact_le (l : List Int) : (Lib.compact l).length ≤ l.length := by
  unfold Lib.compact Lib.compactUpTo
  rw [List.length_map]
  have := List.length_filter_le (Lib.keeps l.toArray) (List.range l.length)
  simpa using this
theorem compact_own {w : World} {B c n : Nat} {X : Option Addr} {l : List Int} (hn : n = l.length) (h : ZOwn w B (.slice X n c) l) (hl : n ≤ 4000000000000) :
    Calls Tryd.prog 32 #[.slice X n c] w fun e w' => e = .returned (.slice X (Lib.compact l).length c) ∧ ZOwn w' B (.slice X (Lib.compact l).length c) (Lib.compact l) ∧ w.heap.size ≤ w'.heap.size ∧ Below B w w' := by
  subst hn
  rcases Nat.eq_zero_or_pos l.length with h0 | h0
  · have hnil : l = [] := List.length_eq_zero_iff.1 h0
    subst hnil
    exact (Tryd.slices_Compact_int_empty X c w).mono fun e w' he => ⟨he.1, by rw [he.2]; exact h, by rw [he.2]; exact Nat.le_refl _, by rw [he.2]; exact Below.refl _ _⟩
  · obtain ⟨blk, cap, hv, hlo, hlt⟩ := World.ownsRow.form h h0
    cases hv
    obtain ⟨A0, c0, e0, hc0, _⟩ := h.form
    cases e0
    refine (Tryd.slices_Compact_int blk 0 c l w (holds_own h) (by omega) hc0).mono fun e w' he => ?_
    obtain ⟨rfl, k, hw⟩ := he
    have hle := compact_le l
    have hlen : (Lib.compact l ++ List.replicate (l.length - (Lib.compact l).length) 0).length = l.length := by simp; omega
    have hw2 : w' = grow (putRow (Value.int .i64) (Sort.ahead w k) blk 0 (Lib.compact l ++ List.replicate (l.length - (Lib.compact l).length) 0).toArray) #[] := by rw [hw, grow_empty]
    subst hw2
    obtain ⟨q1, q2, q3, q4⟩ := row_put (n := k) (os := #[]) (l' := Lib.compact l ++ List.replicate (l.length - (Lib.compact l).length) 0) h hlen
    refine ⟨rfl, ?_, q2, q4⟩
    have := q1.cut rfl (i := (Lib.compact l).length) (by rw [hlen]; exact hle)
    rwa [List.take_left'  rfl] at this

/-- sorted, and freed of repetitions: the list of the members in order -/
theorem keeps_iff (l : List Int) (j : Nat) (h0 : 0 < j) (hj : j < l.length) : Lib.keeps l.toArray j = true ↔ l[j] ≠ l[j - 1]'(by omega) := by
  unfold Lib.keeps
  simp [hj, show j - 1 < l.length by omega, show j ≠ 0 by omega]
theorem compact_mem (l : List Int) (x : Int) : x ∈ Lib.compact l ↔ x ∈ l := by
  unfold Lib.compact Lib.compactUpTo
  constructor
  · intro h
    obtain ⟨j, hj, rfl⟩ := List.mem_map.1 h
    have hj2 : j < l.length := by simpa using (List.mem_filter.1 hj).1
    simp [hj2]
  · intro h
    have ex : ∃ j : Nat, l[j]? = some x := List.mem_iff_getElem?.1 h
    have key : ∀ j : Nat, l[j]? = some x → ∃ i : Nat, l[i]? = some x ∧ (i = 0 ∨ l[i - 1]? ≠ some x) := by
      intro j
      induction j with
      | zero => intro h; exact ⟨0, h, .inl rfl⟩
      | succ j ih =>
        intro h
        by_cases e : l[j]? = some x
        · exact ih e
        · exact ⟨j + 1, h, .inr (by simpa using e)⟩
    obtain ⟨j, hj⟩ := ex
    obtain ⟨i, hi, hor⟩ := key j hj
    obtain ⟨hil, hix⟩ := List.getElem?_eq_some_iff.1 hi
    refine List.mem_map.2 ⟨i, List.mem_filter.2 ⟨by simpa using hil, ?_⟩, by simp [hil, hix]⟩
    rcases hor with rfl | hne
    · exact Lib.keeps_lt_one _ 0 (by omega)
    · rcases Nat.eq_zero_or_pos i with rfl | h0
      · exact Lib.keeps_lt_one _ 0 (by omega)
      · rw [keeps_iff l i h0 hil, hix]
        intro e
        exact hne (by rw [List.getElem?_eq_getElem (by omega), ← e])
theorem compact_up {l : List Int} (hs : l.Pairwise (· ≤ ·)) : (Lib.compact l).Pairwise (· < ·) := by
  unfold Lib.compact Lib.compactUpTo
  rw [List.pairwise_map]
  have hp : ((List.range l.length).filter (Lib.keeps l.toArray)).Pairwise (fun a b => a < b ∧ a < l.length ∧ b < l.length ∧ Lib.keeps l.toArray b = true) := by
    have h1 : ((List.range l.length).filter (Lib.keeps l.toArray)).Pairwise (· < ·) := List.Pairwise.filter _ List.pairwise_lt_range
    rw [List.pairwise_iff_getElem] at h1 ⊢
    intro i j hi hj hij
    have ha := List.mem_filter.1 (List.getElem_mem hi)
    have hb := List.mem_filter.1 (List.getElem_mem hj)
    exact ⟨h1 i j hi hj hij, by simpa using ha.1, by simpa using hb.1, hb.2⟩
  refine hp.imp ?_
  rintro a b ⟨h1, h2, h3, h4⟩
  rw [keeps_iff l b (by omega) h3] at h4
  rw [List.pairwise_iff_getElem] at hs
  have e1 : l.toArray[a]! = l[a] := by simp [h2]
  have e2 : l.toArray[b]! = l[b] := by simp [h3]
  rw [e1, e2]
  have q1 : l[a] ≤ l[b - 1]'(by omega) := by
    rcases Nat.lt_or_ge a (b - 1) with h | h
    · exact hs a (b - 1) h2 (by omega) h
    · have e : a = b - 1 := by omega
      simp only [e]
      exact Int.le_refl _
  have q2 := hs (b - 1) b (by omega) h3 (by omega)
  omega
theorem up_eq {l m : List Int} (hl : l.Pairwise (· < ·)) (hm : m.Pairwise (· < ·)) (h : ∀ x, x ∈ l ↔ x ∈ m) : l = m := by
  have hp : l.Perm m := (List.perm_ext_iff_of_nodup (hl.imp fun h e => by omega) (hm.imp fun h e => by omega)).2 h
  exact List.Perm.eq_of_pairwise (le := fun a b => a < b) (fun a b _ _ h1 h2 => by omega) hl hm hp
theorem srtZ_up (l : List Int) : (srtZ l).Pairwise (· ≤ ·) := by
  have := List.pairwise_mergeSort (le := fun x y : Int => decide (x ≤ y)) (fun a b c h1 h2 => by simp only [decide_eq_true_eq] at *; omega) (fun a b => by simp only [Bool.or_eq_true, decide_eq_true_eq]; omega) l
  exact this.imp fun h => by simpa using h
theorem srtZ_mem (l : List Int) (x : Int) : x ∈ srtZ l ↔ x ∈ l := (List.mergeSort_perm l _).mem_iff
/-- Sort and Compact give the members in increasing order -/
theorem sorted_once (l m : List Int) (hm : m.Pairwise (· < ·)) (h : ∀ x, x ∈ l ↔ x ∈ m) : Lib.compact (srtZ l) = m :=
  up_eq (compact_up (srtZ_up l)) hm fun x => by rw [compact_mem, srtZ_mem, h]
end Go.Proofs.YtjgkcicgjnjepaaDoor
