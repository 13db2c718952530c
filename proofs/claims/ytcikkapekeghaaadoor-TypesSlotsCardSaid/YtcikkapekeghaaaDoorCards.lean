/-
  DERIVED. GIVEN WITH THE SEED: THE CARDS: each row of YtcikkapekeghaaaDoorRows.lean that lists a variable, with what it lists TIED to the program's text (the seventh form; the later family's looks); each row that meets fmt, with fmt's text TOLD by the authors' own Lean function (tested against real Go, not proved from fmt's source: count such statements apart). THE CARD IS WHAT COUNTS. Prove the row's statement (the work); the ties are given (YtcikkapekeghaaaDoorTie.lean); close each card by the builder's one call (the guide's Derived/Test/ToyasCard.lean, 'card_holds'). Laid BY PROGRAM, IN A SANDBOX (cutbox-door.mjs). By AI agents, Wed Nov 11 2026. No macro, syntax, notation, axiom, sorry.
-/
import Derived.Test.YtcikkapekeghaaaDoorRows
import GoSem.ClaimSeven
namespace Go.Proofs.YtcikkapekeghaaaDoor
namespace Rows

/-- THE TIED CARD OF 'assessorlaw08.TypesForms'. -/
def typesFormsCard : Claim7 := { stood := { row := typesFormsRow, standIns := [], harness := (true, "dda2c0fe466517c63d42b8458198e27d3fd2dae7e0414064c243d9b164ae7aa7"), looks := false }, kinds := [], alts := [], laidByText := true, laidKinds := [.data, .data, .data], laidTests := true, laidLooks := .later }
def TypesFormsCardSaid : Prop := Claim7.holds Tryd.pinned (.plain (OpenSpec.ofChange typesFormsSpec)) typesFormsCard

/-- THE TIED CARD OF 'assessorlaw08.TypesSlots'. -/
def typesSlotsCard : Claim7 := { stood := { row := typesSlotsRow, standIns := [], harness := (true, "dda2c0fe466517c63d42b8458198e27d3fd2dae7e0414064c243d9b164ae7aa7"), looks := false }, kinds := [], alts := [], laidByText := true, laidKinds := [.data, .data, .data], laidTests := true, laidLooks := .later }
def TypesSlotsCardSaid : Prop := Claim7.holds Tryd.pinned (.plain (OpenSpec.ofChange typesSlotsSpec)) typesSlotsCard

/-- THE TIED CARD OF 'assessorlaw08.TypesSame'. -/
def typesSameCard : Claim7 := { stood := { row := typesSameRow, standIns := [], harness := (true, "dda2c0fe466517c63d42b8458198e27d3fd2dae7e0414064c243d9b164ae7aa7"), looks := false }, kinds := [], alts := [], laidByText := true, laidKinds := [.data, .data, .data], laidTests := true, laidLooks := .later }
def TypesSameCardSaid : Prop := Claim7.holds Tryd.pinned (.plain (OpenSpec.ofChange typesSameSpec)) typesSameCard

/-- THE SECOND FORM's CARD OF 'assessorlaw08.TypesForms'. -/
def typesFormsUptoCard : Claim7 := { stood := { row := typesFormsUptoRow, standIns := [], harness := (true, "dda2c0fe466517c63d42b8458198e27d3fd2dae7e0414064c243d9b164ae7aa7"), looks := false }, kinds := [], alts := [], laidByText := true, laidKinds := [.data, .data, .data], laidTests := true, laidLooks := .later }
def TypesFormsUptoCardSaid : Prop := Claim7.holds Tryd.pinned (.plain (OpenSpec.upto typesFormsSpec)) typesFormsUptoCard

/-- THE SECOND FORM's CARD OF 'assessorlaw08.TypesSlots'. -/
def typesSlotsUptoCard : Claim7 := { stood := { row := typesSlotsUptoRow, standIns := [], harness := (true, "dda2c0fe466517c63d42b8458198e27d3fd2dae7e0414064c243d9b164ae7aa7"), looks := false }, kinds := [], alts := [], laidByText := true, laidKinds := [.data, .data, .data], laidTests := true, laidLooks := .later }
def TypesSlotsUptoCardSaid : Prop := Claim7.holds Tryd.pinned (.plain (OpenSpec.upto typesSlotsSpec)) typesSlotsUptoCard

/-- THE SECOND FORM's CARD OF 'assessorlaw08.TypesSame'. -/
def typesSameUptoCard : Claim7 := { stood := { row := typesSameUptoRow, standIns := [], harness := (true, "dda2c0fe466517c63d42b8458198e27d3fd2dae7e0414064c243d9b164ae7aa7"), looks := false }, kinds := [], alts := [], laidByText := true, laidKinds := [.data, .data, .data], laidTests := true, laidLooks := .later }
def TypesSameUptoCardSaid : Prop := Claim7.holds Tryd.pinned (.plain (OpenSpec.upto typesSameSpec)) typesSameUptoCard
end Rows
end Go.Proofs.YtcikkapekeghaaaDoor
