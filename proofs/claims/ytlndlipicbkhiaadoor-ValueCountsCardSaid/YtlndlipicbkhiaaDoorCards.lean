/-
  DERIVED. GIVEN WITH THE SEED: THE CARDS: each row of YtlndlipicbkhiaaDoorRows.lean that lists a variable, with what it lists TIED to the program's text (the seventh form; the later family's looks); each row that meets fmt, with fmt's text TOLD by the authors' own Lean function (tested against real Go, not proved from fmt's source: count such statements apart). THE CARD IS WHAT COUNTS. Prove the row's statement (the work); the ties are given (YtlndlipicbkhiaaDoorTie.lean); close each card by the builder's one call (the guide's Derived/Test/ToyasCard.lean, 'card_holds'). Laid BY PROGRAM, IN A SANDBOX (cutbox-door.mjs). By AI agents, Wed Nov 11 2026. No macro, syntax, notation, axiom, sorry.
-/
import Derived.Test.YtlndlipicbkhiaaDoorRows
import GoSem.ClaimSeven
namespace Go.Proofs.YtlndlipicbkhiaaDoor
namespace Rows

/-- THE TIED CARD OF 'assessorlaw11.ValueOperators'. -/
def valueOperatorsCard : Claim7 := { stood := { row := valueOperatorsRow, standIns := [], harness := (true, "8d295af50478dc09b1ed30259c91fbf6d7c447b1591c2ee3291a7ee599ad2168"), looks := false }, kinds := [], alts := [], laidByText := true, laidKinds := [.data, .data, .data], laidTests := true, laidLooks := .later }
def ValueOperatorsCardSaid : Prop := Claim7.holds Tryd.pinned (.plain (OpenSpec.ofChange valueOperatorsSpec)) valueOperatorsCard

/-- THE TIED CARD OF 'assessorlaw11.ValueNext'. -/
def valueNextCard : Claim7 := { stood := { row := valueNextRow, standIns := [], harness := (true, "8d295af50478dc09b1ed30259c91fbf6d7c447b1591c2ee3291a7ee599ad2168"), looks := false }, kinds := [], alts := [], laidByText := true, laidKinds := [.data, .data, .data], laidTests := true, laidLooks := .later }
def ValueNextCardSaid : Prop := Claim7.holds Tryd.pinned (.plain (OpenSpec.ofChange valueNextSpec)) valueNextCard

/-- THE TIED CARD OF 'assessorlaw11.ValueDivides'. -/
def valueDividesCard : Claim7 := { stood := { row := valueDividesRow, standIns := [], harness := (true, "8d295af50478dc09b1ed30259c91fbf6d7c447b1591c2ee3291a7ee599ad2168"), looks := false }, kinds := [], alts := [], laidByText := true, laidKinds := [.data, .data, .data], laidTests := true, laidLooks := .later }
def ValueDividesCardSaid : Prop := Claim7.holds Tryd.pinned (.plain (OpenSpec.ofChange valueDividesSpec)) valueDividesCard

/-- THE TIED CARD OF 'assessorlaw11.ValueRing'. -/
def valueRingCard : Claim7 := { stood := { row := valueRingRow, standIns := [], harness := (true, "8d295af50478dc09b1ed30259c91fbf6d7c447b1591c2ee3291a7ee599ad2168"), looks := false }, kinds := [], alts := [], laidByText := true, laidKinds := [.data, .data, .data], laidTests := true, laidLooks := .later }
def ValueRingCardSaid : Prop := Claim7.holds Tryd.pinned (.plain (OpenSpec.ofChange valueRingSpec)) valueRingCard

/-- THE TIED CARD OF 'assessorlaw11.ValueCounts'. -/
def valueCountsCard : Claim7 := { stood := { row := valueCountsRow, standIns := [], harness := (true, "8d295af50478dc09b1ed30259c91fbf6d7c447b1591c2ee3291a7ee599ad2168"), looks := false }, kinds := [], alts := [], laidByText := true, laidKinds := [.data, .data, .data], laidTests := true, laidLooks := .later }
def ValueCountsCardSaid : Prop := Claim7.holds Tryd.pinned (.plain (OpenSpec.ofChange valueCountsSpec)) valueCountsCard

/-- THE SECOND FORM's CARD OF 'assessorlaw11.ValueOperators'. -/
def valueOperatorsUptoCard : Claim7 := { stood := { row := valueOperatorsUptoRow, standIns := [], harness := (true, "8d295af50478dc09b1ed30259c91fbf6d7c447b1591c2ee3291a7ee599ad2168"), looks := false }, kinds := [], alts := [], laidByText := true, laidKinds := [.data, .data, .data], laidTests := true, laidLooks := .later }
def ValueOperatorsUptoCardSaid : Prop := Claim7.holds Tryd.pinned (.plain (OpenSpec.upto valueOperatorsSpec)) valueOperatorsUptoCard

/-- THE SECOND FORM's CARD OF 'assessorlaw11.ValueNext'. -/
def valueNextUptoCard : Claim7 := { stood := { row := valueNextUptoRow, standIns := [], harness := (true, "8d295af50478dc09b1ed30259c91fbf6d7c447b1591c2ee3291a7ee599ad2168"), looks := false }, kinds := [], alts := [], laidByText := true, laidKinds := [.data, .data, .data], laidTests := true, laidLooks := .later }
def ValueNextUptoCardSaid : Prop := Claim7.holds Tryd.pinned (.plain (OpenSpec.upto valueNextSpec)) valueNextUptoCard

/-- THE SECOND FORM's CARD OF 'assessorlaw11.ValueDivides'. -/
def valueDividesUptoCard : Claim7 := { stood := { row := valueDividesUptoRow, standIns := [], harness := (true, "8d295af50478dc09b1ed30259c91fbf6d7c447b1591c2ee3291a7ee599ad2168"), looks := false }, kinds := [], alts := [], laidByText := true, laidKinds := [.data, .data, .data], laidTests := true, laidLooks := .later }
def ValueDividesUptoCardSaid : Prop := Claim7.holds Tryd.pinned (.plain (OpenSpec.upto valueDividesSpec)) valueDividesUptoCard

/-- THE SECOND FORM's CARD OF 'assessorlaw11.ValueRing'. -/
def valueRingUptoCard : Claim7 := { stood := { row := valueRingUptoRow, standIns := [], harness := (true, "8d295af50478dc09b1ed30259c91fbf6d7c447b1591c2ee3291a7ee599ad2168"), looks := false }, kinds := [], alts := [], laidByText := true, laidKinds := [.data, .data, .data], laidTests := true, laidLooks := .later }
def ValueRingUptoCardSaid : Prop := Claim7.holds Tryd.pinned (.plain (OpenSpec.upto valueRingSpec)) valueRingUptoCard

/-- THE SECOND FORM's CARD OF 'assessorlaw11.ValueCounts'. -/
def valueCountsUptoCard : Claim7 := { stood := { row := valueCountsUptoRow, standIns := [], harness := (true, "8d295af50478dc09b1ed30259c91fbf6d7c447b1591c2ee3291a7ee599ad2168"), looks := false }, kinds := [], alts := [], laidByText := true, laidKinds := [.data, .data, .data], laidTests := true, laidLooks := .later }
def ValueCountsUptoCardSaid : Prop := Claim7.holds Tryd.pinned (.plain (OpenSpec.upto valueCountsSpec)) valueCountsUptoCard
end Rows
end Go.Proofs.YtlndlipicbkhiaaDoor
