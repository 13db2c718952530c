/-
  DERIVED. GIVEN WITH THE SEED: THE CARDS: each row of YtjgkcicgjnjepaaDoorRows.lean that lists a variable, with what it lists TIED to the program's text (the seventh form; the later family's looks); each row that meets fmt, with fmt's text TOLD by the authors' own Lean function (tested against real Go, not proved from fmt's source: count such statements apart). THE CARD IS WHAT COUNTS. Prove the row's statement (the work); the ties are given (YtjgkcicgjnjepaaDoorTie.lean); close each card by the builder's one call (the guide's Derived/Test/ToyasCard.lean, 'card_holds'). Laid BY PROGRAM, IN A SANDBOX (cutbox-door.mjs). By AI agents, Wed Nov 11 2026. No macro, syntax, notation, axiom, sorry.
-/
import Derived.Test.YtjgkcicgjnjepaaDoorRows
import GoSem.ClaimSeven
namespace Go.Proofs.YtjgkcicgjnjepaaDoor
namespace Rows

/-- THE TIED CARD OF 'assessorlaw22.BitvecEvals'. -/
def bitvecEvalsCard : Claim7 := { stood := { row := bitvecEvalsRow, standIns := [], harness := (true, "04413a970b97da0dc188898c57a26189d3a3e8192f3554b04549e181d45cb8ee"), looks := false }, kinds := [], alts := [], laidByText := true, laidKinds := [.data], laidTests := true, laidLooks := .later }
def BitvecEvalsCardSaid : Prop := Claim7.holds Tryd.pinned (.plain (OpenSpec.ofChange bitvecEvalsSpec)) bitvecEvalsCard

/-- THE SECOND FORM's CARD OF 'assessorlaw22.BitvecEvals'. -/
def bitvecEvalsUptoCard : Claim7 := { stood := { row := bitvecEvalsUptoRow, standIns := [], harness := (true, "04413a970b97da0dc188898c57a26189d3a3e8192f3554b04549e181d45cb8ee"), looks := false }, kinds := [], alts := [], laidByText := true, laidKinds := [.data], laidTests := true, laidLooks := .later }
def BitvecEvalsUptoCardSaid : Prop := Claim7.holds Tryd.pinned (.plain (OpenSpec.upto bitvecEvalsSpec)) bitvecEvalsUptoCard
end Rows
end Go.Proofs.YtjgkcicgjnjepaaDoor
