/- What is proved: a row of integers, sorted by the library. -/
import Derived.Test.YtbdpdbeekbbehaaDoBase
import Derived.Test.YtbdpdbeekbbehaaShelf
set_option linter.unusedVariables false
namespace Go.Proofs.Ytbdpdbeekbbehaa
open Go.RowKit Go.Sort

def srtZ (l : List Int) : List Int := l.mergeSort (fun x y => decide (x ≤ y))
theorem putCells_zs {cur : Array Value} {l l' : List Int} (hl : l'.length = l.length) (hc : l.length ≤ cur.size) : (putCells (Value.int .i64) 0 l'.toArray cur).toList.take l'.length = zcells l' := by
  apply List.ext_getElem
  · simp [putCells, zcells, hl]; omega
  · intro i h1 h2
    have hi : i < l'.length := by simpa [zcells] using h2
    have hi2 : i < l'.length := by simpa  using hi
    simp only [putCells, List.getElem_take, Array.getElem_toList, Array.getElem_mapIdx]
    rw [if_pos ⟨Nat.zero_le _, by simpa  using hi⟩]
    simp [zcells, hi]
theorem row_put {w : World} {B blk c n : Nat} {os : Array Obj} {l l' : List Int} (h : ZOwn w B (.slice (some ⟨blk, 0, none⟩) l.length c) l) (hl : l'.length = l.length) :
    ZOwn (grow (putRow (Value.int .i64) (Sort.ahead w n) blk 0 l'.toArray) os) B (.slice (some ⟨blk, 0, none⟩) l'.length c) l' ∧ w.heap.size ≤ (grow (putRow (Value.int .i64) (Sort.ahead w n) blk 0 l'.toArray) os).heap.size ∧ (∀ b, b < w.heap.size → b ≠ blk → (grow (putRow (Value.int .i64) (Sort.ahead w n) blk 0 l'.toArray) os).heap[b]? = w.heap[b]?) ∧ Below B w (grow (putRow (Value.int .i64) (Sort.ahead w n) blk 0 l'.toArray) os) := by
  rcases h.2 with ⟨h1, h2⟩ | ⟨g, cap, cur, h1, h2, h3, h4, h5, h6, h7⟩
  · cases h1
  · cases h1
    have hlt : blk < w.heap.size := (Array.getElem?_eq_some_iff.1 h3).1
    have hheap : (grow (putRow (Value.int .i64) (Sort.ahead w n) blk 0 l'.toArray) os).heap = (w.heap.modify blk (onCells (putCells (Value.int .i64) 0 l'.toArray))) ++ os := rfl
    have hoth : ∀ b, b < w.heap.size → b ≠ blk → (grow (putRow (Value.int .i64) (Sort.ahead w n) blk 0 l'.toArray) os).heap[b]? = w.heap[b]? := fun b hb hne => by
      rw [hheap, Array.getElem?_append, if_pos (by simpa using hb), Array.getElem?_modify, if_neg (Ne.symm hne)]
    have hsz : w.heap.size ≤ (grow (putRow (Value.int .i64) (Sort.ahead w n) blk 0 l'.toArray) os).heap.size := by rw [hheap]; simp
    have hblk : (grow (putRow (Value.int .i64) (Sort.ahead w n) blk 0 l'.toArray) os).heap[blk]? = some (.cells (putCells (Value.int .i64) 0 l'.toArray cur) 3 (0, 0)) := by
      rw [hheap, Array.getElem?_append, if_pos (by simpa using hlt), Array.getElem?_modify, if_pos rfl, h3]
      rfl
    refine ⟨⟨by rw [zcells_len]; omega, .inr ⟨blk, c, _, rfl, h2, hblk, by omega, h5, by simp [putCells, h6], ?_⟩⟩, hsz, hoth, ⟨rfl, rfl, rfl, hsz, fun k hk => hoth k (by omega) (by omega)⟩⟩
    rw [Nat.mul_one]
    exact putCells_zs hl (by omega)
theorem holds_own {w : World} {B blk c : Nat} {l : List Int} (h : ZOwn w B (.slice (some ⟨blk, 0, none⟩) l.length c) l) : Holds (Value.int .i64) w blk 0 l.toArray := by
  intro j hj
  have hj2 : j < l.length := by simpa  using hj
  have hc := World.ownsRow.cells h (g := blk) rfl
  have e : (zcells l)[j]? = some (.int .i64 l[j]) := by simp [zcells, hj2]
  have a := hc _ _ e
  rw [do_add] at a
  obtain ⟨_, _, cs, h3⟩ := own_block' h (b := blk) rfl
  exact ⟨by rw [Nat.zero_add, a]; simp [hj2], hfrz h3 _⟩
theorem sort_own {w : World} {B c n : Nat} {X : Option Addr} {l : List Int} (hn : n = l.length) (h : ZOwn w B (.slice X n c) l) (hl : n ≤ 4000000000000) :
    Calls Try.prog 58 #[.slice X n c] w fun e w' => e = .returned (.tuple #[]) ∧ ZOwn w' B (.slice X n c) (srtZ l) ∧ w.heap.size ≤ w'.heap.size ∧ (∀ b, b < w.heap.size → some b ≠ (Value.slice X n c).ownBlock → w'.heap[b]? = w.heap[b]?) ∧ Below B w w' := by
  subst hn
  have hlen : (srtZ l).length = l.length := List.length_mergeSort l
  rcases Nat.eq_zero_or_pos l.length with h0 | h0
  · have hnil : l = [] := List.length_eq_zero_iff.1 h0
    subst hnil
    have e0 : srtZ [] = [] := by simp [srtZ]
    rw [e0]
    exact (Try.slices_Sort_int_none X c w).mono fun e w' he => ⟨he.1, by rw [he.2]; exact h, by rw [he.2]; exact Nat.le_refl _, fun b _ _ => by rw [he.2], by rw [he.2]; exact Below.refl _ _⟩
  · obtain ⟨blk, cap, hv, hlo, hlt⟩ := World.ownsRow.form h h0
    cases hv
    have hS := Try.slices_Sort_int blk 0 c l w (holds_own h) hlt (by omega)
    refine hS.mono fun e w' he => ?_
    obtain ⟨rfl, k, os, rfl⟩ := he
    obtain ⟨q1, q2, q3, q4⟩ := row_put (n := k) (os := os) h hlen
    exact ⟨rfl, by rw [hlen] at q1; exact q1, q2, fun b hb hne => q3 b hb (fun e => hne (by rw [e]; rfl)), q4⟩
theorem srtZ_eq {l m : List Int} (hp : l.Perm m) (hs : m.Pairwise (· ≤ ·)) : srtZ l = m := by
  refine List.Perm.eq_of_pairwise (le := fun a b => decide (a ≤ b) = true) (fun a b _ _ h1 h2 => by simp only [decide_eq_true_eq] at h1 h2; omega) (List.pairwise_mergeSort (fun a b c h1 h2 => by simp only [decide_eq_true_eq] at *; omega) (fun a b => by simp only [Bool.or_eq_true, decide_eq_true_eq]; omega) l) (hs.imp fun h => by simpa using h) ((List.mergeSort_perm l _).trans hp)
theorem srt_points {L : List Nat} {n : Nat} {p : Nat → Bool} (hn : L.Nodup) (h : ∀ x, x ∈ L ↔ x < n ∧ p x = true) : srtZ (zl L) = zl ((List.range n).filter p) := by
  have hp : L.Perm ((List.range n).filter p) := (List.perm_ext_iff_of_nodup hn (List.nodup_range.filter _)).2 fun x => by rw [h x]; simp
  refine srtZ_eq (hp.map _) ?_
  unfold zl
  rw [List.pairwise_map]
  refine (List.Pairwise.filter _ (List.pairwise_lt_range)).imp fun h => by omega
end Go.Proofs.Ytbdpdbeekbbehaa
