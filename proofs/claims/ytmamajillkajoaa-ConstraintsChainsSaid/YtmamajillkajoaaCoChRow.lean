/- What is proved: the law ConstraintsChains, over what an argument gives. -/
import Derived.Test.YtmamajillkajoaaCoOpen
import Derived.Test.YtmamajillkajoaaCoChLaw2
set_option linter.unusedVariables false
namespace Go.Proofs.Ytmamajillkajoaa
open Go.RowKit Go.Shelf

theorem law_chains_arg (n : Int) (A : Option Addr) (c : Nat) (l : List Con) (W : World) (hc : l.length ≤ c) (h : CRow W.heap.size W A l ∧ ∀ x ∈ l, ConOk x) :
    Calls Try.prog 4 #[.int .i64 n, .slice A l.length c] W fun e w' => e = .returned (.bool true) ∧ Below W.heap.size W w' := by
  cases hf : fewB n l with
  | false => exact chains_few n A c l W hf
  | true =>
    by_cases hE : n < 0 ∨ 4096 < n ∨ l.all (posB n.toNat) = false
    · exact chains_err n A c l W hf h.1 h.2 hE
    · have hfew := hf
      unfold fewB at hfew
      simp only [Bool.and_eq_true, Bool.or_eq_true, decide_eq_true_eq] at hfew
      obtain ⟨m, rfl⟩ : ∃ m : Nat, n = (m : Int) := ⟨n.toNat, by omega⟩
      rw [Int.toNat_natCast] at hE
      exact chains_ok m A c l W (by omega) hfew.1 h.1 h.2 (by
        cases ha : l.all (posB m) with
        | true => rfl
        | false => exact absurd (.inr (.inr ha)) hE)
end Go.Proofs.Ytmamajillkajoaa
