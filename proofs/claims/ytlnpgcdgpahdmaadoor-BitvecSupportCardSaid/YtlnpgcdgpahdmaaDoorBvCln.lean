/- What is proved: slices.Clone over numbers; a number is stored into an owned row. -/
import Derived.Test.YtlnpgcdgpahdmaaDoorBvMem
import Derived.Test.YtlnpgcdgpahdmaaDoorShelf
set_option linter.unusedVariables false
namespace Go.Proofs.YtlnpgcdgpahdmaaDoor
open Go.RowKit Go.Maps

theorem ZOwn.put {w : World} {B g n c : Nat} {l : List Int} (hn : n = l.length) (h : ZOwn w B (.slice (some ⟨g, 0, none⟩) n c) l) {i : Nat} (x : Int) : ZOwn (w.setCell ⟨g, i, none⟩ (.int .i64 x)) B (.slice (some ⟨g, 0, none⟩) n c) (l.set i x) := by
  subst hn
  rcases h.2 with ⟨h1, _⟩ | ⟨g', cap, cur, h1, h2, h3, h4, h5, h6, h7⟩
  · cases h1
  · cases h1
    refine ⟨by simp [zcells], .inr ⟨g, c, _, by simp, h2, hset h3 _, by simpa using h4, h5, by simpa using h6, ?_⟩⟩
    have e : (cur.setIfInBounds i (.int .i64 x)).toList = cur.toList.set i (.int .i64 x) := by simp
    rw [e, Nat.mul_one, List.length_set, List.take_set]
    rw [Nat.mul_one] at h7
    rw [h7]
    simp [zcells, List.map_set]
theorem clone_any (A : Option Addr) (c : Nat) (l : List Int) (w : World) (hl : l.length * 8 ≤ 140737488355328) (hz : ZRow w.heap.size w A l) : Calls Tryd.prog 37 #[.slice A l.length c] w fun e w' => ∃ v, e = .returned v ∧ ZOwn w' w.heap.size v l ∧ Below w.heap.size w w' := by
  rcases Nat.eq_zero_or_pos l.length with h0 | h0
  · obtain rfl : l = [] := List.length_eq_zero_iff.1 h0
    cases A with
    | none =>
      refine (Tryd.slices_Clone_int_nil 0 c w).mono ?_
      rintro e w' ⟨rfl, rfl⟩
      exact ⟨_, rfl, World.ownsRow_nil _ _ _ _, Below.refl _ _⟩
    | some a =>
      refine (Tryd.slices_Clone_int_zero a c w).mono ?_
      rintro e w' ⟨v, rfl, ho, _, hb⟩
      exact ⟨v, rfl, ho, hb⟩
  · obtain ⟨b, off, rfl, _, hc⟩ := hz h0
    refine (Tryd.slices_Clone_int b off l.length c l w (Nat.le_refl _) (by omega) (fun j hj => by rw [hc j hj]; simp [List.getD_eq_getElem?_getD, hj])).mono ?_
    rintro e w' ⟨v, rfl, ho, _, hb⟩
    rw [List.take_length] at ho
    exact ⟨v, rfl, ho, hb⟩
end Go.Proofs.YtlnpgcdgpahdmaaDoor
