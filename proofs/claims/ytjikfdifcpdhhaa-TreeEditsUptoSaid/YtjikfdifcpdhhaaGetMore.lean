/- What is proved: plain facts on what Get gives. -/
import Derived.Test.YtjikfdifcpdhhaaGet
set_option linter.unusedVariables false
namespace Go.Proofs.Ytjikfdifcpdhhaa
open Go.RowKit

theorem NBox.next {W W' : World} {b : Nat} {n : NT} (h : NBox W b n) (hb : Below W.heap.size W W') : NBox W' b n := h.below hb (Array.getElem?_eq_some_iff.1 h).1
theorem inT_zero (n₀ : Nat) (w : World) : InT n₀ w zeroN := (inT_iff _).2 ⟨fun h => absurd h (by simp [zeroN, NT.kids]), by simp [zeroN, NT.kids], by simp [zeroN, NT.kids]⟩
theorem cnt_zero : NT.cnt zeroN = 1 := rfl
theorem getZ_in {n₀ : Nat} {w : World} : ∀ (p : List Int) (n x : NT), NT.getZ n p = some x → InT n₀ w n → InT n₀ w x ∧ NT.cnt x ≤ NT.cnt n
  | [], n, x, h, hi => by simp only [NT.getZ, Option.some.injEq] at h; subst h; exact ⟨hi, Nat.le_refl _⟩
  | i :: p, n, x, h, hi => by
    unfold NT.getZ at h
    split at h
    · rename_i hh
      have h1 := getZ_in p _ x h (hi.kid (List.getElem_mem hh.2))
      have h2 := NT.cnt_kid (List.getElem_mem hh.2)
      exact ⟨h1.1, by omega⟩
    · cases h
theorem getD_in {n₀ : Nat} {w : World} {n : NT} (p : List Int) (hi : InT n₀ w n) : InT n₀ w ((NT.getZ n p).getD zeroN) ∧ NT.cnt ((NT.getZ n p).getD zeroN) ≤ NT.cnt n := by
  cases h : NT.getZ n p with
  | none => exact ⟨inT_zero _ _, by have := NT.cnt_pos n; rw [Option.getD_none, cnt_zero]; omega⟩
  | some x => exact getZ_in p n x h hi
theorem res_same {o : Option NT} {w w' : World} {m : NT} (h : GetRes o w w' m) : NT.strip m = NT.strip (o.getD zeroN) ∧ InT w'.heap.size w' m := by
  cases o with
  | none => rw [h.2 rfl]; exact ⟨rfl, inT_zero _ _⟩
  | some x => exact ⟨(h.1 x rfl).1, fresh_inT (h.1 x rfl).2⟩
theorem cnt_same {m g : NT} (h : NT.strip m = NT.strip g) : NT.cnt m = NT.cnt g := by rw [← NT.cnt_strip m, h, NT.cnt_strip]
end Go.Proofs.Ytjikfdifcpdhhaa
