/-
  NARROWER THAN 'FOR EVERY INPUT', by the rows' own cells (each row's printed sentence says how): BitvecMakes: laid · BitvecEvals: laid · BitvecShares: laid · BitvecWraps: laid · BitvecDivides: laid · BitvecAlgebra: laid · BitvecSupport: laid.
  DERIVED. THE GIVEN ROWS OF THIS SEAT. 7 by the template 'for every input the law returns true; each argument reads behind the call as it read before'; 0 by the template 'total and deterministic' (their statements: YtlnpgcdgpahdmaaDoorTotals.lean).
  GIVEN WITH THE SEED: the statements are not yours to turn. If you find one false, say at which input.
  Laid BY PROGRAM, IN A SANDBOX (cutbox-rows.mjs): the forced cells as the released guide's own fill.sh prints them over the translation 6470680259559d15… (all of the seat's roots in one cut). By AI agents, Wed Nov 11 2026. No macro, syntax, notation, axiom, sorry.
-/
import Derived.Test.YtlnpgcdgpahdmaaDoorChecked
import GoSem.Claim
import GoSem.ClaimJoined
import GoSem.ClaimMapViews
import Derived.JoinedTies
import Derived.KernelRfl
namespace Go.Proofs.YtlnpgcdgpahdmaaDoor
/- THE CELL 'sum', in the pinned program and in every row, IS THE sha256 OF THE DUMP (.gsa) THAT YtlnpgcdgpahdmaaDoorProg.lean LOADS. Nothing in Lean hashes anything: it is a label: what it is worth is what the hold of that sum in a sandbox is worth. -/
noncomputable def Tryd.pinned : Pinned := { name := "ytlnpgcdgpahdmaadoor", sum := "6470680259559d15012f864ecc42e1d3b78aea1b4933bd3f3cc007ef3a7f6351", checked := Tryd.checked }
namespace Rows
def none {H : Type} : Left H := { results := [], args := [] }

/- WHAT THE LISTED PACKAGE-LEVEL VARIABLES READ AS WHEN THE CALL BEGINS. Each datum BY PROGRAM (the guide's laid-datum.mjs) off the statement by which the dump's own 'gosem.cut.vars' lays the variable. In a bare row this is a premise. The card (YtlnpgcdgpahdmaaDoorCards.lean) ties it to the program's text. -/
def laid_assessor_bitvec_shapes {H : Type} : DataW H := .agg [.agg [.lit (.int .i64 0), .lit (.int .i64 0), .agg [.lit (.int .i64 0), .lit (.int .i64 0), .lit (.int .i64 0)]], .agg [.lit (.int .i64 1), .lit (.int .i64 0), .agg [.lit (.int .i64 0), .lit (.int .i64 0), .lit (.int .i64 0)]], .agg [.lit (.int .i64 0), .lit (.int .i64 0), .agg [.lit (.int .i64 0), .lit (.int .i64 0), .lit (.int .i64 0)]], .agg [.lit (.int .i64 1), .lit (.int .i64 0), .agg [.lit (.int .i64 0), .lit (.int .i64 0), .lit (.int .i64 0)]], .agg [.lit (.int .i64 0), .lit (.int .i64 1), .agg [.lit (.int .i64 0), .lit (.int .i64 0), .lit (.int .i64 0)]], .agg [.lit (.int .i64 0), .lit (.int .i64 2), .agg [.lit (.int .i64 0), .lit (.int .i64 0), .lit (.int .i64 0)]], .agg [.lit (.int .i64 0), .lit (.int .i64 2), .agg [.lit (.int .i64 0), .lit (.int .i64 0), .lit (.int .i64 0)]], .agg [.lit (.int .i64 0), .lit (.int .i64 2), .agg [.lit (.int .i64 0), .lit (.int .i64 0), .lit (.int .i64 0)]], .agg [.lit (.int .i64 0), .lit (.int .i64 2), .agg [.lit (.int .i64 0), .lit (.int .i64 0), .lit (.int .i64 0)]], .agg [.lit (.int .i64 0), .lit (.int .i64 2), .agg [.lit (.int .i64 0), .lit (.int .i64 0), .lit (.int .i64 0)]], .agg [.lit (.int .i64 0), .lit (.int .i64 3), .agg [.lit (.int .i64 1), .lit (.int .i64 0), .lit (.int .i64 0)]], .agg [.lit (.int .i64 1), .lit (.int .i64 1), .agg [.lit (.int .i64 1), .lit (.int .i64 0), .lit (.int .i64 0)]], .agg [.lit (.int .i64 1), .lit (.int .i64 2), .agg [.lit (.int .i64 1), .lit (.int .i64 1), .lit (.int .i64 0)]], .agg [.lit (.int .i64 1), .lit (.int .i64 2), .agg [.lit (.int .i64 1), .lit (.int .i64 1), .lit (.int .i64 0)]], .agg [.lit (.int .i64 1), .lit (.int .i64 2), .agg [.lit (.int .i64 1), .lit (.int .i64 1), .lit (.int .i64 0)]], .agg [.lit (.int .i64 1), .lit (.int .i64 3), .agg [.lit (.int .i64 1), .lit (.int .i64 1), .lit (.int .i64 1)]], .agg [.lit (.int .i64 1), .lit (.int .i64 2), .agg [.lit (.int .i64 0), .lit (.int .i64 0), .lit (.int .i64 0)]], .agg [.lit (.int .i64 1), .lit (.int .i64 2), .agg [.lit (.int .i64 0), .lit (.int .i64 0), .lit (.int .i64 0)]]]

/-- 'assessorlaw22.BitvecMakes': WHATEVER THE INPUT: true; the input reads as it did. -/
def bitvecMakesSpec : ChangeSpec := { name := "bitvecMakes", fn := fun _ => fun
  | [d1, d2, d3] => { results := [.lit (.bool true)], args := [d1, d2, d3] }
  | _ => none }
def bitvecMakesRow : OpenClaim := { program := "ytlnpgcdgpahdmaadoor", sum := "6470680259559d15012f864ecc42e1d3b78aea1b4933bd3f3cc007ef3a7f6351", func := "assessor/assessorlaw22.BitvecMakes", spec := "bitvecMakes", recurses := true, named := ["assessor/bitvec.shapes"], plainKeys := false, apart := false, laid := [("assessor/bitvec.shapes", laid_assessor_bitvec_shapes)] }
def BitvecMakesSaid : Prop := bitvecMakesRow.holds Tryd.pinned (OpenSpec.ofChange bitvecMakesSpec)

/-- ITS FALSE NEIGHBOUR: 'it returns false'. Refute it at one input. -/
def bitvecMakesWrong : ChangeSpec := { name := "bitvecMakes", fn := fun _ => fun
  | [d1, d2, d3] => { results := [.lit (.bool false)], args := [d1, d2, d3] }
  | _ => none }
def BitvecMakesWrongFalsely : Prop := bitvecMakesRow.holds Tryd.pinned (OpenSpec.ofChange bitvecMakesWrong)

/-- 'assessorlaw22.BitvecEvals': WHATEVER THE INPUT: true; the input reads as it did. -/
def bitvecEvalsSpec : ChangeSpec := { name := "bitvecEvals", fn := fun _ => fun
  | [d1, d2, d3, d4] => { results := [.lit (.bool true)], args := [d1, d2, d3, d4] }
  | _ => none }
def bitvecEvalsRow : OpenClaim := { program := "ytlnpgcdgpahdmaadoor", sum := "6470680259559d15012f864ecc42e1d3b78aea1b4933bd3f3cc007ef3a7f6351", func := "assessor/assessorlaw22.BitvecEvals", spec := "bitvecEvals", recurses := true, named := ["assessor/bitvec.shapes"], plainKeys := false, apart := false, laid := [("assessor/bitvec.shapes", laid_assessor_bitvec_shapes)] }
def BitvecEvalsSaid : Prop := bitvecEvalsRow.holds Tryd.pinned (OpenSpec.ofChange bitvecEvalsSpec)

/-- ITS FALSE NEIGHBOUR: 'it returns false'. Refute it at one input. -/
def bitvecEvalsWrong : ChangeSpec := { name := "bitvecEvals", fn := fun _ => fun
  | [d1, d2, d3, d4] => { results := [.lit (.bool false)], args := [d1, d2, d3, d4] }
  | _ => none }
def BitvecEvalsWrongFalsely : Prop := bitvecEvalsRow.holds Tryd.pinned (OpenSpec.ofChange bitvecEvalsWrong)

/-- 'assessorlaw22.BitvecShares': WHATEVER THE INPUT: true; the input reads as it did. -/
def bitvecSharesSpec : ChangeSpec := { name := "bitvecShares", fn := fun _ => fun
  | [d1, d2] => { results := [.lit (.bool true)], args := [d1, d2] }
  | _ => none }
def bitvecSharesRow : OpenClaim := { program := "ytlnpgcdgpahdmaadoor", sum := "6470680259559d15012f864ecc42e1d3b78aea1b4933bd3f3cc007ef3a7f6351", func := "assessor/assessorlaw22.BitvecShares", spec := "bitvecShares", recurses := true, named := ["assessor/bitvec.shapes"], plainKeys := false, apart := false, laid := [("assessor/bitvec.shapes", laid_assessor_bitvec_shapes)] }
def BitvecSharesSaid : Prop := bitvecSharesRow.holds Tryd.pinned (OpenSpec.ofChange bitvecSharesSpec)

/-- ITS FALSE NEIGHBOUR: 'it returns false'. Refute it at one input. -/
def bitvecSharesWrong : ChangeSpec := { name := "bitvecShares", fn := fun _ => fun
  | [d1, d2] => { results := [.lit (.bool false)], args := [d1, d2] }
  | _ => none }
def BitvecSharesWrongFalsely : Prop := bitvecSharesRow.holds Tryd.pinned (OpenSpec.ofChange bitvecSharesWrong)

/-- 'assessorlaw22.BitvecWraps': WHATEVER THE INPUT: true; the input reads as it did. -/
def bitvecWrapsSpec : ChangeSpec := { name := "bitvecWraps", fn := fun _ => fun
  | [d1, d2, d3] => { results := [.lit (.bool true)], args := [d1, d2, d3] }
  | _ => none }
def bitvecWrapsRow : OpenClaim := { program := "ytlnpgcdgpahdmaadoor", sum := "6470680259559d15012f864ecc42e1d3b78aea1b4933bd3f3cc007ef3a7f6351", func := "assessor/assessorlaw22.BitvecWraps", spec := "bitvecWraps", unfollowed := true, recurses := true, named := ["assessor/bitvec.shapes"], plainKeys := false, apart := false, laid := [("assessor/bitvec.shapes", laid_assessor_bitvec_shapes)] }
def BitvecWrapsSaid : Prop := bitvecWrapsRow.holds Tryd.pinned (OpenSpec.ofChange bitvecWrapsSpec)

/-- ITS FALSE NEIGHBOUR: 'it returns false'. Refute it at one input. -/
def bitvecWrapsWrong : ChangeSpec := { name := "bitvecWraps", fn := fun _ => fun
  | [d1, d2, d3] => { results := [.lit (.bool false)], args := [d1, d2, d3] }
  | _ => none }
def BitvecWrapsWrongFalsely : Prop := bitvecWrapsRow.holds Tryd.pinned (OpenSpec.ofChange bitvecWrapsWrong)

/-- 'assessorlaw22.BitvecDivides': WHATEVER THE INPUT: true; the input reads as it did. -/
def bitvecDividesSpec : ChangeSpec := { name := "bitvecDivides", fn := fun _ => fun
  | [d1, d2, d3] => { results := [.lit (.bool true)], args := [d1, d2, d3] }
  | _ => none }
def bitvecDividesRow : OpenClaim := { program := "ytlnpgcdgpahdmaadoor", sum := "6470680259559d15012f864ecc42e1d3b78aea1b4933bd3f3cc007ef3a7f6351", func := "assessor/assessorlaw22.BitvecDivides", spec := "bitvecDivides", recurses := true, named := ["assessor/bitvec.shapes"], plainKeys := false, apart := false, laid := [("assessor/bitvec.shapes", laid_assessor_bitvec_shapes)] }
def BitvecDividesSaid : Prop := bitvecDividesRow.holds Tryd.pinned (OpenSpec.ofChange bitvecDividesSpec)

/-- ITS FALSE NEIGHBOUR: 'it returns false'. Refute it at one input. -/
def bitvecDividesWrong : ChangeSpec := { name := "bitvecDivides", fn := fun _ => fun
  | [d1, d2, d3] => { results := [.lit (.bool false)], args := [d1, d2, d3] }
  | _ => none }
def BitvecDividesWrongFalsely : Prop := bitvecDividesRow.holds Tryd.pinned (OpenSpec.ofChange bitvecDividesWrong)

/-- 'assessorlaw22.BitvecAlgebra': WHATEVER THE INPUT: true; the input reads as it did. -/
def bitvecAlgebraSpec : ChangeSpec := { name := "bitvecAlgebra", fn := fun _ => fun
  | [d1, d2, d3, d4] => { results := [.lit (.bool true)], args := [d1, d2, d3, d4] }
  | _ => none }
def bitvecAlgebraRow : OpenClaim := { program := "ytlnpgcdgpahdmaadoor", sum := "6470680259559d15012f864ecc42e1d3b78aea1b4933bd3f3cc007ef3a7f6351", func := "assessor/assessorlaw22.BitvecAlgebra", spec := "bitvecAlgebra", unfollowed := true, recurses := true, named := ["assessor/bitvec.shapes"], plainKeys := false, apart := false, laid := [("assessor/bitvec.shapes", laid_assessor_bitvec_shapes)] }
def BitvecAlgebraSaid : Prop := bitvecAlgebraRow.holds Tryd.pinned (OpenSpec.ofChange bitvecAlgebraSpec)

/-- ITS FALSE NEIGHBOUR: 'it returns false'. Refute it at one input. -/
def bitvecAlgebraWrong : ChangeSpec := { name := "bitvecAlgebra", fn := fun _ => fun
  | [d1, d2, d3, d4] => { results := [.lit (.bool false)], args := [d1, d2, d3, d4] }
  | _ => none }
def BitvecAlgebraWrongFalsely : Prop := bitvecAlgebraRow.holds Tryd.pinned (OpenSpec.ofChange bitvecAlgebraWrong)

/-- 'assessorlaw22.BitvecSupport': WHATEVER THE INPUT: true; the input reads as it did. -/
def bitvecSupportSpec : ChangeSpec := { name := "bitvecSupport", fn := fun _ => fun
  | [d1, d2, d3, d4] => { results := [.lit (.bool true)], args := [d1, d2, d3, d4] }
  | _ => none }
def bitvecSupportRow : OpenClaim := { program := "ytlnpgcdgpahdmaadoor", sum := "6470680259559d15012f864ecc42e1d3b78aea1b4933bd3f3cc007ef3a7f6351", func := "assessor/assessorlaw22.BitvecSupport", spec := "bitvecSupport", recurses := true, named := ["assessor/bitvec.shapes"], plainKeys := false, apart := false, laid := [("assessor/bitvec.shapes", laid_assessor_bitvec_shapes)] }
def BitvecSupportSaid : Prop := bitvecSupportRow.holds Tryd.pinned (OpenSpec.ofChange bitvecSupportSpec)

/-- ITS FALSE NEIGHBOUR: 'it returns false'. Refute it at one input. -/
def bitvecSupportWrong : ChangeSpec := { name := "bitvecSupport", fn := fun _ => fun
  | [d1, d2, d3, d4] => { results := [.lit (.bool false)], args := [d1, d2, d3, d4] }
  | _ => none }
def BitvecSupportWrongFalsely : Prop := bitvecSupportRow.holds Tryd.pinned (OpenSpec.ofChange bitvecSupportWrong)

/- THE SECOND FORM. 'bulk': how many values and letters a reading holds, each counted each time it is reached (what is shared counts as often as it is met; a slice's spare places count too). A statement '..UptoSaid' is the law's where the arguments, and the package variables that the reading takes, are together of bulk at most 1048576: NARROWER than '..Said'. Prove '..Said' where nothing that the law and all that it calls make is longer than what came in: it says more and counts as full. Else prove '..UptoSaid'. A law counts once. -/
mutual
def uptoBulk {H : Type} : DataW H → Nat
  | .lit (.string bytes) => bytes.length + 1
  | .lit _ => 1
  | .nil => 1
  | .ptr d => uptoBulk d + 1
  | .slice elems spare => uptoBulkAll elems + uptoBulkAll spare + 1
  | .agg parts => uptoBulkAll parts + 1
  | .iface _ d => uptoBulk d + 1
  | .map entries => uptoBulkEntries entries + 1
  | .held _ => 1
def uptoBulkAll {H : Type} : List (DataW H) → Nat
  | [] => 0
  | d :: r => uptoBulk d + uptoBulkAll r
def uptoBulkEntries {H : Type} : List (Lit × DataW H) → Nat
  | [] => 0
  | x :: r => uptoBulkEntry x + uptoBulkEntries r
def uptoBulkEntry {H : Type} : Lit × DataW H → Nat
  | (.string bytes, d) => bytes.length + uptoBulk d + 1
  | (_, d) => uptoBulk d + 1
 end
def uptoSmall : (H : Type) → List (DataW H) → Bool := fun _ ds => decide (uptoBulkAll ds ≤ 1048576)
def OpenSpec.upto (s : _root_.Go.ChangeSpec) : _root_.Go.OpenSpec := { _root_.Go.OpenSpec.ofChange s with cond := some uptoSmall }

/-- 'assessorlaw22.BitvecMakes', WHERE WHAT IT READS IS OF BULK AT MOST 1048576: true; the input reads as it did. -/
def bitvecMakesUptoRow : OpenClaim := { program := "ytlnpgcdgpahdmaadoor", sum := "6470680259559d15012f864ecc42e1d3b78aea1b4933bd3f3cc007ef3a7f6351", func := "assessor/assessorlaw22.BitvecMakes", spec := "bitvecMakes", recurses := true, named := ["assessor/bitvec.shapes"], plainKeys := false, apart := false, laid := [("assessor/bitvec.shapes", laid_assessor_bitvec_shapes)], narrowed := true }
def BitvecMakesUptoSaid : Prop := bitvecMakesUptoRow.holds Tryd.pinned (OpenSpec.upto bitvecMakesSpec)

/-- 'assessorlaw22.BitvecEvals', WHERE WHAT IT READS IS OF BULK AT MOST 1048576: true; the input reads as it did. -/
def bitvecEvalsUptoRow : OpenClaim := { program := "ytlnpgcdgpahdmaadoor", sum := "6470680259559d15012f864ecc42e1d3b78aea1b4933bd3f3cc007ef3a7f6351", func := "assessor/assessorlaw22.BitvecEvals", spec := "bitvecEvals", recurses := true, named := ["assessor/bitvec.shapes"], plainKeys := false, apart := false, laid := [("assessor/bitvec.shapes", laid_assessor_bitvec_shapes)], narrowed := true }
def BitvecEvalsUptoSaid : Prop := bitvecEvalsUptoRow.holds Tryd.pinned (OpenSpec.upto bitvecEvalsSpec)

/-- 'assessorlaw22.BitvecShares', WHERE WHAT IT READS IS OF BULK AT MOST 1048576: true; the input reads as it did. -/
def bitvecSharesUptoRow : OpenClaim := { program := "ytlnpgcdgpahdmaadoor", sum := "6470680259559d15012f864ecc42e1d3b78aea1b4933bd3f3cc007ef3a7f6351", func := "assessor/assessorlaw22.BitvecShares", spec := "bitvecShares", recurses := true, named := ["assessor/bitvec.shapes"], plainKeys := false, apart := false, laid := [("assessor/bitvec.shapes", laid_assessor_bitvec_shapes)], narrowed := true }
def BitvecSharesUptoSaid : Prop := bitvecSharesUptoRow.holds Tryd.pinned (OpenSpec.upto bitvecSharesSpec)

/-- 'assessorlaw22.BitvecWraps', WHERE WHAT IT READS IS OF BULK AT MOST 1048576: true; the input reads as it did. -/
def bitvecWrapsUptoRow : OpenClaim := { program := "ytlnpgcdgpahdmaadoor", sum := "6470680259559d15012f864ecc42e1d3b78aea1b4933bd3f3cc007ef3a7f6351", func := "assessor/assessorlaw22.BitvecWraps", spec := "bitvecWraps", unfollowed := true, recurses := true, named := ["assessor/bitvec.shapes"], plainKeys := false, apart := false, laid := [("assessor/bitvec.shapes", laid_assessor_bitvec_shapes)], narrowed := true }
def BitvecWrapsUptoSaid : Prop := bitvecWrapsUptoRow.holds Tryd.pinned (OpenSpec.upto bitvecWrapsSpec)

/-- 'assessorlaw22.BitvecDivides', WHERE WHAT IT READS IS OF BULK AT MOST 1048576: true; the input reads as it did. -/
def bitvecDividesUptoRow : OpenClaim := { program := "ytlnpgcdgpahdmaadoor", sum := "6470680259559d15012f864ecc42e1d3b78aea1b4933bd3f3cc007ef3a7f6351", func := "assessor/assessorlaw22.BitvecDivides", spec := "bitvecDivides", recurses := true, named := ["assessor/bitvec.shapes"], plainKeys := false, apart := false, laid := [("assessor/bitvec.shapes", laid_assessor_bitvec_shapes)], narrowed := true }
def BitvecDividesUptoSaid : Prop := bitvecDividesUptoRow.holds Tryd.pinned (OpenSpec.upto bitvecDividesSpec)

/-- 'assessorlaw22.BitvecAlgebra', WHERE WHAT IT READS IS OF BULK AT MOST 1048576: true; the input reads as it did. -/
def bitvecAlgebraUptoRow : OpenClaim := { program := "ytlnpgcdgpahdmaadoor", sum := "6470680259559d15012f864ecc42e1d3b78aea1b4933bd3f3cc007ef3a7f6351", func := "assessor/assessorlaw22.BitvecAlgebra", spec := "bitvecAlgebra", unfollowed := true, recurses := true, named := ["assessor/bitvec.shapes"], plainKeys := false, apart := false, laid := [("assessor/bitvec.shapes", laid_assessor_bitvec_shapes)], narrowed := true }
def BitvecAlgebraUptoSaid : Prop := bitvecAlgebraUptoRow.holds Tryd.pinned (OpenSpec.upto bitvecAlgebraSpec)

/-- 'assessorlaw22.BitvecSupport', WHERE WHAT IT READS IS OF BULK AT MOST 1048576: true; the input reads as it did. -/
def bitvecSupportUptoRow : OpenClaim := { program := "ytlnpgcdgpahdmaadoor", sum := "6470680259559d15012f864ecc42e1d3b78aea1b4933bd3f3cc007ef3a7f6351", func := "assessor/assessorlaw22.BitvecSupport", spec := "bitvecSupport", recurses := true, named := ["assessor/bitvec.shapes"], plainKeys := false, apart := false, laid := [("assessor/bitvec.shapes", laid_assessor_bitvec_shapes)], narrowed := true }
def BitvecSupportUptoSaid : Prop := bitvecSupportUptoRow.holds Tryd.pinned (OpenSpec.upto bitvecSupportSpec)

end Rows
end Go.Proofs.YtlnpgcdgpahdmaaDoor
