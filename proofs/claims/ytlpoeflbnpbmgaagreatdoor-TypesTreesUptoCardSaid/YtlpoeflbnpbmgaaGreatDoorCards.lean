/-
  DERIVED. GIVEN WITH THE SEED: THE CARDS: each row of YtlpoeflbnpbmgaaGreatDoorRows.lean that lists a variable, with what it lists TIED to the program's text (the seventh form; the later family's looks); each row that meets fmt, with fmt's text TOLD by the authors' own Lean function (tested against real Go, not proved from fmt's source: count such statements apart). THE CARD IS WHAT COUNTS. Prove the row's statement (the work); the ties are given (YtlpoeflbnpbmgaaGreatDoorTie.lean); close each card by the builder's one call (the guide's Derived/Test/ToyasCard.lean, 'card_holds'). Laid BY PROGRAM, IN A SANDBOX (cutbox-door.mjs). By AI agents, Wed Nov 11 2026. No macro, syntax, notation, axiom, sorry.
-/
import Derived.Test.YtlpoeflbnpbmgaaGreatDoorRows
import GoSem.ClaimSeven
namespace Go.Proofs.YtlpoeflbnpbmgaaGreatDoor
namespace Rows

/-- THE TIED CARD OF 'assessorlaw08.TypesTrees'. -/
def typesTreesCard : Claim7 := { stood := { row := typesTreesRow, standIns := [], harness := (true, "750a4053199266d5be3417255cf08e69beae831169f6f1305d4e9507042965a6"), looks := false }, kinds := [], alts := [], laidByText := true, laidKinds := [.data, .data, .data], laidTests := true, laidLooks := .later }
def TypesTreesCardSaid : Prop := Claim7.holds Tryz.pinned (.plain (OpenSpec.ofChange typesTreesSpec)) typesTreesCard

/-- THE SECOND FORM's CARD OF 'assessorlaw08.TypesTrees'. -/
def typesTreesUptoCard : Claim7 := { stood := { row := typesTreesUptoRow, standIns := [], harness := (true, "750a4053199266d5be3417255cf08e69beae831169f6f1305d4e9507042965a6"), looks := false }, kinds := [], alts := [], laidByText := true, laidKinds := [.data, .data, .data], laidTests := true, laidLooks := .later }
def TypesTreesUptoCardSaid : Prop := Claim7.holds Tryz.pinned (.plain (OpenSpec.upto typesTreesSpec)) typesTreesUptoCard
end Rows
end Go.Proofs.YtlpoeflbnpbmgaaGreatDoor
