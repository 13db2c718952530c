/-
  No cell of these rows narrows 'for every input' (looked for: loops, veiled, ifaces, maps, wideKeys, modest, calm, conditions, laid).
  DERIVED. THE GIVEN ROWS OF THIS SEAT. 5 by the template 'for every input the law returns true; each argument reads behind the call as it read before'; 0 by the template 'total and deterministic' (their statements: YtbcabnbgkicfdaaTotals.lean).
  GIVEN WITH THE SEED: the statements are not yours to turn. If you find one false, say at which input.
  Laid BY PROGRAM, IN A SANDBOX (cutbox-rows.mjs): the forced cells as the released guide's own fill.sh prints them over the translation 1d4850b6618ca56f… (all of the seat's roots in one cut). By AI agents, Wed Nov 11 2026. No macro, syntax, notation, axiom, sorry.
-/
import Derived.Test.YtbcabnbgkicfdaaChecked
import GoSem.Claim
import GoSem.ClaimJoined
import GoSem.ClaimMapViews
import Derived.JoinedTies
import Derived.KernelRfl
namespace Go.Proofs.Ytbcabnbgkicfdaa
/- THE CELL 'sum', in the pinned program and in every row, IS THE sha256 OF THE DUMP (.gsa) THAT YtbcabnbgkicfdaaProg.lean LOADS. Nothing in Lean hashes anything: it is a label: what it is worth is what the hold of that sum in a sandbox is worth. -/
noncomputable def Try.pinned : Pinned := { name := "ytbcabnbgkicfdaa", sum := "1d4850b6618ca56f083af4d033507cca4a140f3ddefb94132bab66d607411da1", checked := Try.checked }
namespace Rows
def none {H : Type} : Left H := { results := [], args := [] }

/-- 'assessorlaw24.GatesBuild': WHATEVER THE INPUT: true; the input reads as it did. -/
def gatesBuildSpec : ChangeSpec := { name := "gatesBuild", fn := fun _ => fun
  | [d1, d2, d3] => { results := [.lit (.bool true)], args := [d1, d2, d3] }
  | _ => none }
def gatesBuildRow : OpenClaim := { program := "ytbcabnbgkicfdaa", sum := "1d4850b6618ca56f083af4d033507cca4a140f3ddefb94132bab66d607411da1", func := "assessor/assessorlaw24.GatesBuild", spec := "gatesBuild", unfollowed := true, recurses := true, plainKeys := false, apart := false }
def GatesBuildSaid : Prop := gatesBuildRow.holds Try.pinned (OpenSpec.ofChange gatesBuildSpec)

/-- ITS FALSE NEIGHBOUR: 'it returns false'. Refute it at one input. -/
def gatesBuildWrong : ChangeSpec := { name := "gatesBuild", fn := fun _ => fun
  | [d1, d2, d3] => { results := [.lit (.bool false)], args := [d1, d2, d3] }
  | _ => none }
def GatesBuildWrongFalsely : Prop := gatesBuildRow.holds Try.pinned (OpenSpec.ofChange gatesBuildWrong)

/-- 'assessorlaw25.BlastNumbers': WHATEVER THE INPUT: true; the input reads as it did. -/
def blastNumbersSpec : ChangeSpec := { name := "blastNumbers", fn := fun _ => fun
  | [d1, d2, d3, d4, d5, d6] => { results := [.lit (.bool true)], args := [d1, d2, d3, d4, d5, d6] }
  | _ => none }
def blastNumbersRow : OpenClaim := { program := "ytbcabnbgkicfdaa", sum := "1d4850b6618ca56f083af4d033507cca4a140f3ddefb94132bab66d607411da1", func := "assessor/assessorlaw25.BlastNumbers", spec := "blastNumbers", unfollowed := true, recurses := true, plainKeys := false, apart := false }
def BlastNumbersSaid : Prop := blastNumbersRow.holds Try.pinned (OpenSpec.ofChange blastNumbersSpec)

/-- ITS FALSE NEIGHBOUR: 'it returns false'. Refute it at one input. -/
def blastNumbersWrong : ChangeSpec := { name := "blastNumbers", fn := fun _ => fun
  | [d1, d2, d3, d4, d5, d6] => { results := [.lit (.bool false)], args := [d1, d2, d3, d4, d5, d6] }
  | _ => none }
def BlastNumbersWrongFalsely : Prop := blastNumbersRow.holds Try.pinned (OpenSpec.ofChange blastNumbersWrong)

/-- 'assessorlaw25.BlastReads': WHATEVER THE INPUT: true; the input reads as it did. -/
def blastReadsSpec : ChangeSpec := { name := "blastReads", fn := fun _ => fun
  | [d1, d2] => { results := [.lit (.bool true)], args := [d1, d2] }
  | _ => none }
def blastReadsRow : OpenClaim := { program := "ytbcabnbgkicfdaa", sum := "1d4850b6618ca56f083af4d033507cca4a140f3ddefb94132bab66d607411da1", func := "assessor/assessorlaw25.BlastReads", spec := "blastReads", unfollowed := true, recurses := true, plainKeys := false, apart := false }
def BlastReadsSaid : Prop := blastReadsRow.holds Try.pinned (OpenSpec.ofChange blastReadsSpec)

/-- ITS FALSE NEIGHBOUR: 'it returns false'. Refute it at one input. -/
def blastReadsWrong : ChangeSpec := { name := "blastReads", fn := fun _ => fun
  | [d1, d2] => { results := [.lit (.bool false)], args := [d1, d2] }
  | _ => none }
def BlastReadsWrongFalsely : Prop := blastReadsRow.holds Try.pinned (OpenSpec.ofChange blastReadsWrong)

/-- 'assessorlaw25.BlastOperators': WHATEVER THE INPUT: true; the input reads as it did. -/
def blastOperatorsSpec : ChangeSpec := { name := "blastOperators", fn := fun _ => fun
  | [d1, d2, d3, d4] => { results := [.lit (.bool true)], args := [d1, d2, d3, d4] }
  | _ => none }
def blastOperatorsRow : OpenClaim := { program := "ytbcabnbgkicfdaa", sum := "1d4850b6618ca56f083af4d033507cca4a140f3ddefb94132bab66d607411da1", func := "assessor/assessorlaw25.BlastOperators", spec := "blastOperators", unfollowed := true, recurses := true, plainKeys := false, apart := false }
def BlastOperatorsSaid : Prop := blastOperatorsRow.holds Try.pinned (OpenSpec.ofChange blastOperatorsSpec)

/-- ITS FALSE NEIGHBOUR: 'it returns false'. Refute it at one input. -/
def blastOperatorsWrong : ChangeSpec := { name := "blastOperators", fn := fun _ => fun
  | [d1, d2, d3, d4] => { results := [.lit (.bool false)], args := [d1, d2, d3, d4] }
  | _ => none }
def BlastOperatorsWrongFalsely : Prop := blastOperatorsRow.holds Try.pinned (OpenSpec.ofChange blastOperatorsWrong)

/-- 'assessorlaw25.BlastWords': WHATEVER THE INPUT: true; the input reads as it did. -/
def blastWordsSpec : ChangeSpec := { name := "blastWords", fn := fun _ => fun
  | [d1, d2] => { results := [.lit (.bool true)], args := [d1, d2] }
  | _ => none }
def blastWordsRow : OpenClaim := { program := "ytbcabnbgkicfdaa", sum := "1d4850b6618ca56f083af4d033507cca4a140f3ddefb94132bab66d607411da1", func := "assessor/assessorlaw25.BlastWords", spec := "blastWords", unfollowed := true, recurses := true, plainKeys := false, apart := false }
def BlastWordsSaid : Prop := blastWordsRow.holds Try.pinned (OpenSpec.ofChange blastWordsSpec)

/-- ITS FALSE NEIGHBOUR: 'it returns false'. Refute it at one input. -/
def blastWordsWrong : ChangeSpec := { name := "blastWords", fn := fun _ => fun
  | [d1, d2] => { results := [.lit (.bool false)], args := [d1, d2] }
  | _ => none }
def BlastWordsWrongFalsely : Prop := blastWordsRow.holds Try.pinned (OpenSpec.ofChange blastWordsWrong)

/- THE SECOND FORM. 'bulk': how many values and letters a reading holds, each counted each time it is reached (what is shared counts as often as it is met; a slice's spare places count too). A statement '..UptoSaid' is the law's where the arguments, and the package variables that the reading takes, are together of bulk at most 1048576: NARROWER than '..Said'. Prove '..Said' where nothing that the law and all that it calls make is longer than what came in: it says more and counts as full. Else prove '..UptoSaid'. A law counts once. -/
mutual
def uptoBulk {H : Type} : DataW H → Nat
  | .lit (.string bytes) => bytes.length + 1
  | .lit _ => 1
  | .nil => 1
  | .ptr d => uptoBulk d + 1
  | .slice elems spare => uptoBulkAll elems + uptoBulkAll spare + 1
  | .agg parts => uptoBulkAll parts + 1
  | .iface _ d => uptoBulk d + 1
  | .map entries => uptoBulkEntries entries + 1
  | .held _ => 1
def uptoBulkAll {H : Type} : List (DataW H) → Nat
  | [] => 0
  | d :: r => uptoBulk d + uptoBulkAll r
def uptoBulkEntries {H : Type} : List (Lit × DataW H) → Nat
  | [] => 0
  | x :: r => uptoBulkEntry x + uptoBulkEntries r
def uptoBulkEntry {H : Type} : Lit × DataW H → Nat
  | (.string bytes, d) => bytes.length + uptoBulk d + 1
  | (_, d) => uptoBulk d + 1
 end
def uptoSmall : (H : Type) → List (DataW H) → Bool := fun _ ds => decide (uptoBulkAll ds ≤ 1048576)
def OpenSpec.upto (s : _root_.Go.ChangeSpec) : _root_.Go.OpenSpec := { _root_.Go.OpenSpec.ofChange s with cond := some uptoSmall }

/-- 'assessorlaw24.GatesBuild', WHERE WHAT IT READS IS OF BULK AT MOST 1048576: true; the input reads as it did. -/
def gatesBuildUptoRow : OpenClaim := { program := "ytbcabnbgkicfdaa", sum := "1d4850b6618ca56f083af4d033507cca4a140f3ddefb94132bab66d607411da1", func := "assessor/assessorlaw24.GatesBuild", spec := "gatesBuild", unfollowed := true, recurses := true, plainKeys := false, apart := false, narrowed := true }
def GatesBuildUptoSaid : Prop := gatesBuildUptoRow.holds Try.pinned (OpenSpec.upto gatesBuildSpec)

/-- 'assessorlaw25.BlastNumbers', WHERE WHAT IT READS IS OF BULK AT MOST 1048576: true; the input reads as it did. -/
def blastNumbersUptoRow : OpenClaim := { program := "ytbcabnbgkicfdaa", sum := "1d4850b6618ca56f083af4d033507cca4a140f3ddefb94132bab66d607411da1", func := "assessor/assessorlaw25.BlastNumbers", spec := "blastNumbers", unfollowed := true, recurses := true, plainKeys := false, apart := false, narrowed := true }
def BlastNumbersUptoSaid : Prop := blastNumbersUptoRow.holds Try.pinned (OpenSpec.upto blastNumbersSpec)

/-- 'assessorlaw25.BlastReads', WHERE WHAT IT READS IS OF BULK AT MOST 1048576: true; the input reads as it did. -/
def blastReadsUptoRow : OpenClaim := { program := "ytbcabnbgkicfdaa", sum := "1d4850b6618ca56f083af4d033507cca4a140f3ddefb94132bab66d607411da1", func := "assessor/assessorlaw25.BlastReads", spec := "blastReads", unfollowed := true, recurses := true, plainKeys := false, apart := false, narrowed := true }
def BlastReadsUptoSaid : Prop := blastReadsUptoRow.holds Try.pinned (OpenSpec.upto blastReadsSpec)

/-- 'assessorlaw25.BlastOperators', WHERE WHAT IT READS IS OF BULK AT MOST 1048576: true; the input reads as it did. -/
def blastOperatorsUptoRow : OpenClaim := { program := "ytbcabnbgkicfdaa", sum := "1d4850b6618ca56f083af4d033507cca4a140f3ddefb94132bab66d607411da1", func := "assessor/assessorlaw25.BlastOperators", spec := "blastOperators", unfollowed := true, recurses := true, plainKeys := false, apart := false, narrowed := true }
def BlastOperatorsUptoSaid : Prop := blastOperatorsUptoRow.holds Try.pinned (OpenSpec.upto blastOperatorsSpec)

/-- 'assessorlaw25.BlastWords', WHERE WHAT IT READS IS OF BULK AT MOST 1048576: true; the input reads as it did. -/
def blastWordsUptoRow : OpenClaim := { program := "ytbcabnbgkicfdaa", sum := "1d4850b6618ca56f083af4d033507cca4a140f3ddefb94132bab66d607411da1", func := "assessor/assessorlaw25.BlastWords", spec := "blastWords", unfollowed := true, recurses := true, plainKeys := false, apart := false, narrowed := true }
def BlastWordsUptoSaid : Prop := blastWordsUptoRow.holds Try.pinned (OpenSpec.upto blastWordsSpec)

end Rows
end Go.Proofs.Ytbcabnbgkicfdaa
