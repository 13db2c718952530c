/- What is proved: slices.Equal of two lists of numbers that are equal. -/
import Derived.Test.YtbcabnbgkicfdaaBlNum3
import Derived.Test.YtbcabnbgkicfdaaGaCir
import Derived.Test.YtbcabnbgkicfdaaGaEv2
set_option linter.unusedVariables false
namespace Go.Proofs.Ytbcabnbgkicfdaa
open Go.RowKit Go.Maps

set_option maxRecDepth 100000 in
theorem equalI_any (A1 : Option Addr) (c1 : Nat) (A2 : Option Addr) (c2 : Nat) (l1 : List Int) (w : World) (h1 : ZRow w.heap.size w A1 l1) (h2 : ZRow w.heap.size w A2 l1) (hl : l1.length ≤ 1000000) :
    Calls Try.prog 59 #[.slice A1 l1.length c1, .slice A2 l1.length c2] w fun e w' => e = .returned (.bool true) ∧ Below w.heap.size w w' := by
  have HR1 := Lib.hid h1
  have HR2 := Lib.hid h2
  clear h1 h2
  go_enter Try.func59, Try.ntmps59
  go_wp2_with (fail)
  go_loopw [13] (fun jv wr => ∃ (k : Nat), k ≤ l1.length ∧ jv = .int .i64 (k : Int) ∧ Hid (Below w.heap.size w wr)) (fun jv _ => l1.length - (intOf jv).toNat)
  case atStart => exact ⟨0, Nat.zero_le _, rfl, Lib.hid (Below.refl _ _)⟩
  case round =>
    obtain ⟨k, hk, rfl, hbw⟩ := hrel
    by_cases hlt : k < l1.length
    · obtain ⟨a1, o1, e1, _, q1⟩ := (HR1.out.below hbw.out) (by omega)
      obtain ⟨a2, o2, e2, _, q2⟩ := (HR2.out.below hbw.out) (by omega)
      have r1 := q1 k hlt
      have r2 := q2 k hlt
      obtain ⟨x, HX⟩ : ∃ x, Hid (l1[k] = x) := ⟨_, Lib.hid rfl⟩
      rw [HX.out] at r1 r2
      cases e1
      cases e2
      clear q1 q2
      go_wp2_with (fail)
      go_quiet (fail)
      go_wp2_with (fail)
      exact ⟨⟨k + 1, by omega, by go_num, Lib.hid (hbw.out.trans ((drewN_below wr nq).mono hbw.out.size))⟩, by simp [intOf]; omega⟩
    · obtain rfl : k = l1.length := by omega
      go_wp2_with (fail)
      go_ret
      exact ⟨rfl, hbw.out⟩
end Go.Proofs.Ytbcabnbgkicfdaa
