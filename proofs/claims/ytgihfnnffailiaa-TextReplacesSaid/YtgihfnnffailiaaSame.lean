/- What is proved: Same answers true at two slices that read as the same replacements. -/
import Derived.Test.YtgihfnnffailiaaOrd
import Derived.Deep.Draws
set_option linter.unusedVariables false
namespace Go.Proofs.Ytgihfnnffailiaa
open Go.RowKit

set_option maxHeartbeats 400000 in
theorem same_same (A B : Option Addr) (c d : Nat) (l : List Rep) (w : World) (hl : l.length ≤ 1000000000) (h1 : RepsA w A l) (h2 : RepsA w B l) :
    Calls Try.prog 24 #[.slice A l.length c, .slice B l.length d] w fun e w' => e = .returned (.bool true) ∧ ∃ n, w' = w.drewN n := by
  have H1 := Lib.hid h1
  have H2 := Lib.hid h2
  have hne : ((l.length : Int) != (l.length : Int)) = false := by simp
  clear h1 h2
  go_enter Try.func24, Try.ntmps24
  go_wp2
  go_loopw [5] (fun i wr => ∃ k n : Nat, k ≤ l.length ∧ i = .int .i64 (k : Int) ∧ wr = w.drewN n) (fun i _ => l.length - (intOf i).toNat)
  case atStart => exact ⟨0, 0, Nat.zero_le _, rfl, rfl⟩
  case round =>
    obtain ⟨k, n, hk, rfl, rfl⟩ := hrel
    by_cases hlt : k < l.length
    · obtain ⟨b1, o1, rfl, _, r1⟩ := H1.out (by omega)
      obtain ⟨b2, o2, rfl, _, r2⟩ := H2.out (by omega)
      obtain ⟨c1, c2, c3⟩ := r1 k hlt
      obtain ⟨d1, d2, d3⟩ := r2 k hlt
      generalize l[k].lo = x at *
      generalize l[k].hi = y at *
      generalize l[k].text = t at *
      have e1 : (x == x) = true := by simp
      have e2 : (y == y) = true := by simp
      clear r1 r2
      go_wp2
      go_quiet (fail)
      go_wp2
      exact ⟨⟨k + 1, n + nq, by omega, by go_num, rfl⟩, by simp [intOf]; omega⟩
    · go_wp2
      go_ret
      exact ⟨rfl, n, rfl⟩
end Go.Proofs.Ytgihfnnffailiaa
