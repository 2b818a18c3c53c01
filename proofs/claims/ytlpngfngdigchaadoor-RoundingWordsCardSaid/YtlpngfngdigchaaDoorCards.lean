/-
  DERIVED. GIVEN WITH THE SEED: THE CARDS: each row of YtlpngfngdigchaaDoorRows.lean that lists a variable, with what it lists TIED to the program's text (the seventh form; the later family's looks); each row that meets fmt, with fmt's text TOLD by the authors' own Lean function (tested against real Go, not proved from fmt's source: count such statements apart). THE CARD IS WHAT COUNTS. Prove the row's statement (the work); the ties are given (YtlpngfngdigchaaDoorTie.lean); close each card by the builder's one call (the guide's Derived/Test/ToyasCard.lean, 'card_holds'). Laid BY PROGRAM, IN A SANDBOX (cutbox-door.mjs). By AI agents, Wed Nov 11 2026. No macro, syntax, notation, axiom, sorry.
-/
import Derived.Test.YtlpngfngdigchaaDoorRows
import GoSem.ClaimSeven
namespace Go.Proofs.YtlpngfngdigchaaDoor
namespace Rows

/-- THE TIED CARD OF 'spilelaw02.RoundingQuotients'. -/
def roundingQuotientsCard : Claim7 := { stood := { row := roundingQuotientsRow, standIns := [], harness := (true, "35bb8e012816858812b15e6727e90dcc133248382dc83e9fe1630e9cfa8662fd"), looks := false }, kinds := [], alts := [], laidByText := true, laidKinds := [.data], laidTests := true, laidLooks := .later }
def RoundingQuotientsCardSaid : Prop := Claim7.holds Tryd.pinned (.plain (OpenSpec.ofChange roundingQuotientsSpec)) roundingQuotientsCard

/-- THE TIED CARD OF 'spilelaw02.RoundingProducts'. -/
def roundingProductsCard : Claim7 := { stood := { row := roundingProductsRow, standIns := [], harness := (true, "35bb8e012816858812b15e6727e90dcc133248382dc83e9fe1630e9cfa8662fd"), looks := false }, kinds := [], alts := [], laidByText := true, laidKinds := [.data], laidTests := true, laidLooks := .later }
def RoundingProductsCardSaid : Prop := Claim7.holds Tryd.pinned (.plain (OpenSpec.ofChange roundingProductsSpec)) roundingProductsCard

/-- THE TIED CARD OF 'spilelaw02.RoundingWords'. -/
def roundingWordsCard : Claim7 := { stood := { row := roundingWordsRow, standIns := [], harness := (true, "35bb8e012816858812b15e6727e90dcc133248382dc83e9fe1630e9cfa8662fd"), looks := false }, kinds := [], alts := [], laidByText := true, laidKinds := [.data], laidTests := true, laidLooks := .later }
def RoundingWordsCardSaid : Prop := Claim7.holds Tryd.pinned (.plain (OpenSpec.ofChange roundingWordsSpec)) roundingWordsCard

/-- THE TIED CARD OF 'spilelaw02.RoundingNear'. -/
def roundingNearCard : Claim7 := { stood := { row := roundingNearRow, standIns := [], harness := (true, "35bb8e012816858812b15e6727e90dcc133248382dc83e9fe1630e9cfa8662fd"), looks := false }, kinds := [], alts := [], laidByText := true, laidKinds := [.data], laidTests := true, laidLooks := .later }
def RoundingNearCardSaid : Prop := Claim7.holds Tryd.pinned (.plain (OpenSpec.ofChange roundingNearSpec)) roundingNearCard

/-- THE TIED CARD OF 'spilelaw02.RoundingOrder'. -/
def roundingOrderCard : Claim7 := { stood := { row := roundingOrderRow, standIns := [], harness := (true, "35bb8e012816858812b15e6727e90dcc133248382dc83e9fe1630e9cfa8662fd"), looks := false }, kinds := [], alts := [], laidByText := true, laidKinds := [.data], laidTests := true, laidLooks := .later }
def RoundingOrderCardSaid : Prop := Claim7.holds Tryd.pinned (.plain (OpenSpec.ofChange roundingOrderSpec)) roundingOrderCard

/-- THE TIED CARD OF 'spilelaw02.RoundingSteps'. -/
def roundingStepsCard : Claim7 := { stood := { row := roundingStepsRow, standIns := [], harness := (true, "35bb8e012816858812b15e6727e90dcc133248382dc83e9fe1630e9cfa8662fd"), looks := false }, kinds := [], alts := [], laidByText := true, laidKinds := [.data], laidTests := true, laidLooks := .later }
def RoundingStepsCardSaid : Prop := Claim7.holds Tryd.pinned (.plain (OpenSpec.ofChange roundingStepsSpec)) roundingStepsCard

/-- THE TIED CARD OF 'spilelaw02.RoundingTotals'. -/
def roundingTotalsCard : Claim7 := { stood := { row := roundingTotalsRow, standIns := [], harness := (true, "35bb8e012816858812b15e6727e90dcc133248382dc83e9fe1630e9cfa8662fd"), looks := false }, kinds := [], alts := [], laidByText := true, laidKinds := [.data], laidTests := true, laidLooks := .later }
def RoundingTotalsCardSaid : Prop := Claim7.holds Tryd.pinned (.plain (OpenSpec.ofChange roundingTotalsSpec)) roundingTotalsCard

/-- THE SECOND FORM's CARD OF 'spilelaw02.RoundingQuotients'. -/
def roundingQuotientsUptoCard : Claim7 := { stood := { row := roundingQuotientsUptoRow, standIns := [], harness := (true, "35bb8e012816858812b15e6727e90dcc133248382dc83e9fe1630e9cfa8662fd"), looks := false }, kinds := [], alts := [], laidByText := true, laidKinds := [.data], laidTests := true, laidLooks := .later }
def RoundingQuotientsUptoCardSaid : Prop := Claim7.holds Tryd.pinned (.plain (OpenSpec.upto roundingQuotientsSpec)) roundingQuotientsUptoCard

/-- THE SECOND FORM's CARD OF 'spilelaw02.RoundingProducts'. -/
def roundingProductsUptoCard : Claim7 := { stood := { row := roundingProductsUptoRow, standIns := [], harness := (true, "35bb8e012816858812b15e6727e90dcc133248382dc83e9fe1630e9cfa8662fd"), looks := false }, kinds := [], alts := [], laidByText := true, laidKinds := [.data], laidTests := true, laidLooks := .later }
def RoundingProductsUptoCardSaid : Prop := Claim7.holds Tryd.pinned (.plain (OpenSpec.upto roundingProductsSpec)) roundingProductsUptoCard

/-- THE SECOND FORM's CARD OF 'spilelaw02.RoundingWords'. -/
def roundingWordsUptoCard : Claim7 := { stood := { row := roundingWordsUptoRow, standIns := [], harness := (true, "35bb8e012816858812b15e6727e90dcc133248382dc83e9fe1630e9cfa8662fd"), looks := false }, kinds := [], alts := [], laidByText := true, laidKinds := [.data], laidTests := true, laidLooks := .later }
def RoundingWordsUptoCardSaid : Prop := Claim7.holds Tryd.pinned (.plain (OpenSpec.upto roundingWordsSpec)) roundingWordsUptoCard

/-- THE SECOND FORM's CARD OF 'spilelaw02.RoundingNear'. -/
def roundingNearUptoCard : Claim7 := { stood := { row := roundingNearUptoRow, standIns := [], harness := (true, "35bb8e012816858812b15e6727e90dcc133248382dc83e9fe1630e9cfa8662fd"), looks := false }, kinds := [], alts := [], laidByText := true, laidKinds := [.data], laidTests := true, laidLooks := .later }
def RoundingNearUptoCardSaid : Prop := Claim7.holds Tryd.pinned (.plain (OpenSpec.upto roundingNearSpec)) roundingNearUptoCard

/-- THE SECOND FORM's CARD OF 'spilelaw02.RoundingOrder'. -/
def roundingOrderUptoCard : Claim7 := { stood := { row := roundingOrderUptoRow, standIns := [], harness := (true, "35bb8e012816858812b15e6727e90dcc133248382dc83e9fe1630e9cfa8662fd"), looks := false }, kinds := [], alts := [], laidByText := true, laidKinds := [.data], laidTests := true, laidLooks := .later }
def RoundingOrderUptoCardSaid : Prop := Claim7.holds Tryd.pinned (.plain (OpenSpec.upto roundingOrderSpec)) roundingOrderUptoCard

/-- THE SECOND FORM's CARD OF 'spilelaw02.RoundingSteps'. -/
def roundingStepsUptoCard : Claim7 := { stood := { row := roundingStepsUptoRow, standIns := [], harness := (true, "35bb8e012816858812b15e6727e90dcc133248382dc83e9fe1630e9cfa8662fd"), looks := false }, kinds := [], alts := [], laidByText := true, laidKinds := [.data], laidTests := true, laidLooks := .later }
def RoundingStepsUptoCardSaid : Prop := Claim7.holds Tryd.pinned (.plain (OpenSpec.upto roundingStepsSpec)) roundingStepsUptoCard

/-- THE SECOND FORM's CARD OF 'spilelaw02.RoundingTotals'. -/
def roundingTotalsUptoCard : Claim7 := { stood := { row := roundingTotalsUptoRow, standIns := [], harness := (true, "35bb8e012816858812b15e6727e90dcc133248382dc83e9fe1630e9cfa8662fd"), looks := false }, kinds := [], alts := [], laidByText := true, laidKinds := [.data], laidTests := true, laidLooks := .later }
def RoundingTotalsUptoCardSaid : Prop := Claim7.holds Tryd.pinned (.plain (OpenSpec.upto roundingTotalsSpec)) roundingTotalsUptoCard
end Rows
end Go.Proofs.YtlpngfngdigchaaDoor
