/- What is proved: the law ConstraintsOrder, over what an argument gives. -/
import Derived.Test.YtmahjkdmnimaiaaCoOpen
set_option linter.unusedVariables false
namespace Go.Proofs.Ytmahjkdmnimaiaa
open Go.RowKit Go.Shelf

theorem law_order_arg (n : Int) (A : Option Addr) (c : Nat) (l : List Con) (by_ : Int) (W : World) (hc : l.length ≤ c) (h : CRow W.heap.size W A l ∧ ∀ x ∈ l, ConOk x) (hw : (Lit.int .u8 by_).wf = true) :
    Calls Try.prog 6 #[.int .i64 n, .slice A l.length c, .int .u8 by_] W fun e w' => e = .returned (.bool true) ∧ Below W.heap.size W w' := by
  refine law_order n A c l by_ ?_ W h.1 h.2 hc
  have h0 : IntKind.u8.min = 0 := by decide
  have h1 : IntKind.u8.max = 255 := by decide
  simp [Lit.wf, h0, h1] at hw
  omega
end Go.Proofs.Ytmahjkdmnimaiaa
