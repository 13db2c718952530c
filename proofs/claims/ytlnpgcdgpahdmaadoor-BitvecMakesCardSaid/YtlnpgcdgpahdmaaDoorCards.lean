/-
  DERIVED. GIVEN WITH THE SEED: THE CARDS: each row of YtlnpgcdgpahdmaaDoorRows.lean that lists a variable, with what it lists TIED to the program's text (the seventh form; the later family's looks); each row that meets fmt, with fmt's text TOLD by the authors' own Lean function (tested against real Go, not proved from fmt's source: count such statements apart). THE CARD IS WHAT COUNTS. Prove the row's statement (the work); the ties are given (YtlnpgcdgpahdmaaDoorTie.lean); close each card by the builder's one call (the guide's Derived/Test/ToyasCard.lean, 'card_holds'). Laid BY PROGRAM, IN A SANDBOX (cutbox-door.mjs). By AI agents, Wed Nov 11 2026. No macro, syntax, notation, axiom, sorry.
-/
import Derived.Test.YtlnpgcdgpahdmaaDoorRows
import GoSem.ClaimSeven
namespace Go.Proofs.YtlnpgcdgpahdmaaDoor
namespace Rows

/-- THE TIED CARD OF 'assessorlaw22.BitvecMakes'. -/
def bitvecMakesCard : Claim7 := { stood := { row := bitvecMakesRow, standIns := [], harness := (true, "3f78457f7746542e1153fcc2723cbf2dc6c03a6be2191a3a0fee63833bb01233"), looks := false }, kinds := [], alts := [], laidByText := true, laidKinds := [.data], laidTests := true, laidLooks := .later }
def BitvecMakesCardSaid : Prop := Claim7.holds Tryd.pinned (.plain (OpenSpec.ofChange bitvecMakesSpec)) bitvecMakesCard

/-- THE TIED CARD OF 'assessorlaw22.BitvecEvals'. -/
def bitvecEvalsCard : Claim7 := { stood := { row := bitvecEvalsRow, standIns := [], harness := (true, "3f78457f7746542e1153fcc2723cbf2dc6c03a6be2191a3a0fee63833bb01233"), looks := false }, kinds := [], alts := [], laidByText := true, laidKinds := [.data], laidTests := true, laidLooks := .later }
def BitvecEvalsCardSaid : Prop := Claim7.holds Tryd.pinned (.plain (OpenSpec.ofChange bitvecEvalsSpec)) bitvecEvalsCard

/-- THE TIED CARD OF 'assessorlaw22.BitvecShares'. -/
def bitvecSharesCard : Claim7 := { stood := { row := bitvecSharesRow, standIns := [], harness := (true, "3f78457f7746542e1153fcc2723cbf2dc6c03a6be2191a3a0fee63833bb01233"), looks := false }, kinds := [], alts := [], laidByText := true, laidKinds := [.data], laidTests := true, laidLooks := .later }
def BitvecSharesCardSaid : Prop := Claim7.holds Tryd.pinned (.plain (OpenSpec.ofChange bitvecSharesSpec)) bitvecSharesCard

/-- THE TIED CARD OF 'assessorlaw22.BitvecWraps'. -/
def bitvecWrapsCard : Claim7 := { stood := { row := bitvecWrapsRow, standIns := [], harness := (true, "3f78457f7746542e1153fcc2723cbf2dc6c03a6be2191a3a0fee63833bb01233"), looks := false }, kinds := [], alts := [], laidByText := true, laidKinds := [.data], laidTests := true, laidLooks := .later }
def BitvecWrapsCardSaid : Prop := Claim7.holds Tryd.pinned (.plain (OpenSpec.ofChange bitvecWrapsSpec)) bitvecWrapsCard

/-- THE TIED CARD OF 'assessorlaw22.BitvecDivides'. -/
def bitvecDividesCard : Claim7 := { stood := { row := bitvecDividesRow, standIns := [], harness := (true, "3f78457f7746542e1153fcc2723cbf2dc6c03a6be2191a3a0fee63833bb01233"), looks := false }, kinds := [], alts := [], laidByText := true, laidKinds := [.data], laidTests := true, laidLooks := .later }
def BitvecDividesCardSaid : Prop := Claim7.holds Tryd.pinned (.plain (OpenSpec.ofChange bitvecDividesSpec)) bitvecDividesCard

/-- THE TIED CARD OF 'assessorlaw22.BitvecAlgebra'. -/
def bitvecAlgebraCard : Claim7 := { stood := { row := bitvecAlgebraRow, standIns := [], harness := (true, "3f78457f7746542e1153fcc2723cbf2dc6c03a6be2191a3a0fee63833bb01233"), looks := false }, kinds := [], alts := [], laidByText := true, laidKinds := [.data], laidTests := true, laidLooks := .later }
def BitvecAlgebraCardSaid : Prop := Claim7.holds Tryd.pinned (.plain (OpenSpec.ofChange bitvecAlgebraSpec)) bitvecAlgebraCard

/-- THE TIED CARD OF 'assessorlaw22.BitvecSupport'. -/
def bitvecSupportCard : Claim7 := { stood := { row := bitvecSupportRow, standIns := [], harness := (true, "3f78457f7746542e1153fcc2723cbf2dc6c03a6be2191a3a0fee63833bb01233"), looks := false }, kinds := [], alts := [], laidByText := true, laidKinds := [.data], laidTests := true, laidLooks := .later }
def BitvecSupportCardSaid : Prop := Claim7.holds Tryd.pinned (.plain (OpenSpec.ofChange bitvecSupportSpec)) bitvecSupportCard

/-- THE SECOND FORM's CARD OF 'assessorlaw22.BitvecMakes'. -/
def bitvecMakesUptoCard : Claim7 := { stood := { row := bitvecMakesUptoRow, standIns := [], harness := (true, "3f78457f7746542e1153fcc2723cbf2dc6c03a6be2191a3a0fee63833bb01233"), looks := false }, kinds := [], alts := [], laidByText := true, laidKinds := [.data], laidTests := true, laidLooks := .later }
def BitvecMakesUptoCardSaid : Prop := Claim7.holds Tryd.pinned (.plain (OpenSpec.upto bitvecMakesSpec)) bitvecMakesUptoCard

/-- THE SECOND FORM's CARD OF 'assessorlaw22.BitvecEvals'. -/
def bitvecEvalsUptoCard : Claim7 := { stood := { row := bitvecEvalsUptoRow, standIns := [], harness := (true, "3f78457f7746542e1153fcc2723cbf2dc6c03a6be2191a3a0fee63833bb01233"), looks := false }, kinds := [], alts := [], laidByText := true, laidKinds := [.data], laidTests := true, laidLooks := .later }
def BitvecEvalsUptoCardSaid : Prop := Claim7.holds Tryd.pinned (.plain (OpenSpec.upto bitvecEvalsSpec)) bitvecEvalsUptoCard

/-- THE SECOND FORM's CARD OF 'assessorlaw22.BitvecShares'. -/
def bitvecSharesUptoCard : Claim7 := { stood := { row := bitvecSharesUptoRow, standIns := [], harness := (true, "3f78457f7746542e1153fcc2723cbf2dc6c03a6be2191a3a0fee63833bb01233"), looks := false }, kinds := [], alts := [], laidByText := true, laidKinds := [.data], laidTests := true, laidLooks := .later }
def BitvecSharesUptoCardSaid : Prop := Claim7.holds Tryd.pinned (.plain (OpenSpec.upto bitvecSharesSpec)) bitvecSharesUptoCard

/-- THE SECOND FORM's CARD OF 'assessorlaw22.BitvecWraps'. -/
def bitvecWrapsUptoCard : Claim7 := { stood := { row := bitvecWrapsUptoRow, standIns := [], harness := (true, "3f78457f7746542e1153fcc2723cbf2dc6c03a6be2191a3a0fee63833bb01233"), looks := false }, kinds := [], alts := [], laidByText := true, laidKinds := [.data], laidTests := true, laidLooks := .later }
def BitvecWrapsUptoCardSaid : Prop := Claim7.holds Tryd.pinned (.plain (OpenSpec.upto bitvecWrapsSpec)) bitvecWrapsUptoCard

/-- THE SECOND FORM's CARD OF 'assessorlaw22.BitvecDivides'. -/
def bitvecDividesUptoCard : Claim7 := { stood := { row := bitvecDividesUptoRow, standIns := [], harness := (true, "3f78457f7746542e1153fcc2723cbf2dc6c03a6be2191a3a0fee63833bb01233"), looks := false }, kinds := [], alts := [], laidByText := true, laidKinds := [.data], laidTests := true, laidLooks := .later }
def BitvecDividesUptoCardSaid : Prop := Claim7.holds Tryd.pinned (.plain (OpenSpec.upto bitvecDividesSpec)) bitvecDividesUptoCard

/-- THE SECOND FORM's CARD OF 'assessorlaw22.BitvecAlgebra'. -/
def bitvecAlgebraUptoCard : Claim7 := { stood := { row := bitvecAlgebraUptoRow, standIns := [], harness := (true, "3f78457f7746542e1153fcc2723cbf2dc6c03a6be2191a3a0fee63833bb01233"), looks := false }, kinds := [], alts := [], laidByText := true, laidKinds := [.data], laidTests := true, laidLooks := .later }
def BitvecAlgebraUptoCardSaid : Prop := Claim7.holds Tryd.pinned (.plain (OpenSpec.upto bitvecAlgebraSpec)) bitvecAlgebraUptoCard

/-- THE SECOND FORM's CARD OF 'assessorlaw22.BitvecSupport'. -/
def bitvecSupportUptoCard : Claim7 := { stood := { row := bitvecSupportUptoRow, standIns := [], harness := (true, "3f78457f7746542e1153fcc2723cbf2dc6c03a6be2191a3a0fee63833bb01233"), looks := false }, kinds := [], alts := [], laidByText := true, laidKinds := [.data], laidTests := true, laidLooks := .later }
def BitvecSupportUptoCardSaid : Prop := Claim7.holds Tryd.pinned (.plain (OpenSpec.upto bitvecSupportSpec)) bitvecSupportUptoCard
end Rows
end Go.Proofs.YtlnpgcdgpahdmaaDoor
