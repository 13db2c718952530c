/- What is proved: the law ConstraintsGrow, over what an argument gives. -/
import Derived.Test.YtmamajillkajoaaCoOpen
import Derived.Test.YtmamajillkajoaaCoGrLaw2
set_option linter.unusedVariables false
namespace Go.Proofs.Ytmamajillkajoaa
open Go.RowKit Go.Shelf

theorem law_grow_arg (n : Int) (A : Option Addr) (c : Nat) (l : List Con) (W : World) (hc : l.length ≤ c) (h : CRow W.heap.size W A l ∧ ∀ x ∈ l, ConOk x) :
    Calls Try.prog 5 #[.int .i64 n, .slice A l.length c] W fun e w' => e = .returned (.bool true) ∧ Below W.heap.size W w' := by
  cases hf : fewB n l with
  | false => exact grow_few n A c l W hf
  | true =>
    rcases Nat.eq_zero_or_pos l.length with h0 | h0
    · obtain rfl : l = [] := List.eq_nil_of_length_eq_zero h0
      exact grow_nil n A c W hf
    · obtain ⟨b, off, hA, _, _⟩ := h.1 h0
      obtain ⟨k, hk⟩ : ∃ k, l.length = k + 1 := ⟨l.length - 1, by omega⟩
      obtain ⟨hr, hok⟩ := h
      rw [hA] at hr
      rw [hA, hk]
      by_cases hE : n < 0 ∨ 4096 < n ∨ l.all (posB n.toNat) = false
      · exact grow_err n b off c k l W hk (by omega) hf hr hok hE
      · have hfew := hf
        unfold fewB at hfew
        simp only [Bool.and_eq_true, Bool.or_eq_true, decide_eq_true_eq] at hfew
        obtain ⟨m, rfl⟩ : ∃ m : Nat, n = (m : Int) := ⟨n.toNat, by omega⟩
        rw [Int.toNat_natCast] at hE
        exact grow_ok m b off c k l W (by omega) hfew.1 hk (by omega) hr hok (by
          cases ha : l.all (posB m) with
          | true => rfl
          | false => exact absurd (.inr (.inr ha)) hE)
end Go.Proofs.Ytmamajillkajoaa
