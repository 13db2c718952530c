/- What is proved: the reference's Eval. -/
import Derived.Test.YtbcabnbgkicfdaaGaEv2
set_option linter.unusedVariables false
namespace Go.Proofs.Ytbcabnbgkicfdaa
open Go.RowKit Go.Maps

theorem litV_nat {ns : List Bool} {m : Nat} {q : Bool} (hl : m / 2 < ns.length) (hq : ns[m / 2] = q) : litV ns (m : Int) = (!(q == ((m : Int) % 2 == 1))) := by
  have h := litV_at (ns := ns) (x := (m : Int)) (k := m / 2) (by omega) hl
  rw [h, hq]
  rfl
end Go.Proofs.Ytbcabnbgkicfdaa
