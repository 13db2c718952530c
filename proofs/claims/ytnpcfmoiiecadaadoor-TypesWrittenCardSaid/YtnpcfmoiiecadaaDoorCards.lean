/-
  DERIVED. GIVEN WITH THE SEED: THE CARDS: each row of YtnpcfmoiiecadaaDoorRows.lean that lists a variable, with what it lists TIED to the program's text (the seventh form; the later family's looks); each row that meets fmt, with fmt's text TOLD by the authors' own Lean function (tested against real Go, not proved from fmt's source: count such statements apart). THE CARD IS WHAT COUNTS. Prove the row's statement (the work); the ties are given (YtnpcfmoiiecadaaDoorTie.lean); close each card by the builder's one call (the guide's Derived/Test/ToyasCard.lean, 'card_holds'). Laid BY PROGRAM, IN A SANDBOX (cutbox-door.mjs). By AI agents, Wed Nov 11 2026. No macro, syntax, notation, axiom, sorry.
-/
import Derived.Test.YtnpcfmoiiecadaaDoorRows
import GoSem.ClaimSeven
namespace Go.Proofs.YtnpcfmoiiecadaaDoor
namespace Rows

/-- THE TIED CARD OF 'assessorlaw08.TypesWritten'. -/
def typesWrittenCard : Claim7 := { stood := { row := typesWrittenRow, standIns := [], harness := (true, "f92c0963aae4177e4af1f286aeda08762b1258df314cdf8c59057fe171d28323"), looks := false }, kinds := [], alts := [], laidByText := true, laidKinds := [.data, .data, .data], laidTests := true, laidLooks := .later }
def TypesWrittenCardSaid : Prop := Claim7.holds Tryd.pinned (.plain (OpenSpec.ofChange typesWrittenSpec)) typesWrittenCard

/-- THE SECOND FORM's CARD OF 'assessorlaw08.TypesWritten'. -/
def typesWrittenUptoCard : Claim7 := { stood := { row := typesWrittenUptoRow, standIns := [], harness := (true, "f92c0963aae4177e4af1f286aeda08762b1258df314cdf8c59057fe171d28323"), looks := false }, kinds := [], alts := [], laidByText := true, laidKinds := [.data, .data, .data], laidTests := true, laidLooks := .later }
def TypesWrittenUptoCardSaid : Prop := Claim7.holds Tryd.pinned (.plain (OpenSpec.upto typesWrittenSpec)) typesWrittenUptoCard
end Rows
end Go.Proofs.YtnpcfmoiiecadaaDoor
