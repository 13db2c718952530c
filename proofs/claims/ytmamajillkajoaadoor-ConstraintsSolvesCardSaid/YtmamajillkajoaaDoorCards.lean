/-
  DERIVED. GIVEN WITH THE SEED: THE CARDS: each row of YtmamajillkajoaaDoorRows.lean that lists a variable, with what it lists TIED to the program's text (the seventh form; the later family's looks); each row that meets fmt, with fmt's text TOLD by the authors' own Lean function (tested against real Go, not proved from fmt's source: count such statements apart). THE CARD IS WHAT COUNTS. Prove the row's statement (the work); the ties are given (YtmamajillkajoaaDoorTie.lean); close each card by the builder's one call (the guide's Derived/Test/ToyasCard.lean, 'card_holds'). Laid BY PROGRAM, IN A SANDBOX (cutbox-door.mjs). By AI agents, Wed Nov 11 2026. No macro, syntax, notation, axiom, sorry.
-/
import Derived.Test.YtmamajillkajoaaDoorRows
import GoSem.ClaimSeven
namespace Go.Proofs.YtmamajillkajoaaDoor
namespace Rows

/-- THE TIED CARD OF 'assessorlaw09.ConstraintsSolves'. -/
def constraintsSolvesCard : Claim7 := { stood := { row := constraintsSolvesRow, standIns := [], harness := (true, "80dce6a704b8cce6696d6ea4a7a3cce2c16d92957a1035a05c98bf2fe7e28522"), looks := false }, kinds := [], alts := [], laidByText := true, laidKinds := [.data, .data, .data], laidTests := true, laidLooks := .later }
def ConstraintsSolvesCardSaid : Prop := Claim7.holds Tryd.pinned (.plain (OpenSpec.ofChange constraintsSolvesSpec)) constraintsSolvesCard

/-- THE SECOND FORM's CARD OF 'assessorlaw09.ConstraintsSolves'. -/
def constraintsSolvesUptoCard : Claim7 := { stood := { row := constraintsSolvesUptoRow, standIns := [], harness := (true, "80dce6a704b8cce6696d6ea4a7a3cce2c16d92957a1035a05c98bf2fe7e28522"), looks := false }, kinds := [], alts := [], laidByText := true, laidKinds := [.data, .data, .data], laidTests := true, laidLooks := .later }
def ConstraintsSolvesUptoCardSaid : Prop := Claim7.holds Tryd.pinned (.plain (OpenSpec.upto constraintsSolvesSpec)) constraintsSolvesUptoCard
end Rows
end Go.Proofs.YtmamajillkajoaaDoor
