/-
  DERIVED. GIVEN WITH THE SEED: THE CARDS: each row of YtdpkochkpcjioabDoorRows.lean that lists a variable, with what it lists TIED to the program's text (the seventh form; the later family's looks); each row that meets fmt, with fmt's text TOLD by the authors' own Lean function (tested against real Go, not proved from fmt's source: count such statements apart). THE CARD IS WHAT COUNTS. Prove the row's statement (the work); the ties are given (YtdpkochkpcjioabDoorTie.lean); close each card by the builder's one call (the guide's Derived/Test/ToyasCard.lean, 'card_holds'). Laid BY PROGRAM, IN A SANDBOX (cutbox-door.mjs). By AI agents, Wed Nov 11 2026. No macro, syntax, notation, axiom, sorry.
-/
import Derived.Test.YtdpkochkpcjioabDoorRows
import GoSem.ClaimSeven
namespace Go.Proofs.YtdpkochkpcjioabDoor
namespace Rows

/-- THE TIED CARD OF 'spilelaw15.GaugeReports'. -/
def gaugeReportsCard : Claim7 := { stood := { row := gaugeReportsRow, standIns := [], harness := (true, "389c6a9e5236670a94dc21a1e3e9e61aaf0cf943d1235edc8bc53411af9c0946"), looks := false }, kinds := [], alts := [], laidByText := true, laidKinds := [.data], laidTests := true, laidLooks := .later }
def GaugeReportsCardSaid : Prop := Claim7.holds Tryd.pinned (.plain (OpenSpec.ofChange gaugeReportsSpec)) gaugeReportsCard

/-- THE TIED CARD OF 'spilelaw15.GaugeLists'. -/
def gaugeListsCard : Claim7 := { stood := { row := gaugeListsRow, standIns := [], harness := (true, "389c6a9e5236670a94dc21a1e3e9e61aaf0cf943d1235edc8bc53411af9c0946"), looks := false }, kinds := [], alts := [], laidByText := true, laidKinds := [.data], laidTests := true, laidLooks := .later }
def GaugeListsCardSaid : Prop := Claim7.holds Tryd.pinned (.plain (OpenSpec.ofChange gaugeListsSpec)) gaugeListsCard

/-- THE TIED CARD OF 'spilelaw15.GaugeRight'. -/
def gaugeRightCard : Claim7 := { stood := { row := gaugeRightRow, standIns := [], harness := (true, "389c6a9e5236670a94dc21a1e3e9e61aaf0cf943d1235edc8bc53411af9c0946"), looks := false }, kinds := [], alts := [], laidByText := true, laidKinds := [.data], laidTests := true, laidLooks := .later }
def GaugeRightCardSaid : Prop := Claim7.holds Tryd.pinned (.plain (OpenSpec.ofChange gaugeRightSpec)) gaugeRightCard

/-- THE TIED CARD OF 'spilelaw15.GaugeFiner'. -/
def gaugeFinerCard : Claim7 := { stood := { row := gaugeFinerRow, standIns := [], harness := (true, "389c6a9e5236670a94dc21a1e3e9e61aaf0cf943d1235edc8bc53411af9c0946"), looks := false }, kinds := [], alts := [], laidByText := true, laidKinds := [.data], laidTests := true, laidLooks := .later }
def GaugeFinerCardSaid : Prop := Claim7.holds Tryd.pinned (.plain (OpenSpec.ofChange gaugeFinerSpec)) gaugeFinerCard

/-- THE TIED CARD OF 'spilelaw15.GaugeTogether'. -/
def gaugeTogetherCard : Claim7 := { stood := { row := gaugeTogetherRow, standIns := [], harness := (true, "389c6a9e5236670a94dc21a1e3e9e61aaf0cf943d1235edc8bc53411af9c0946"), looks := false }, kinds := [], alts := [], laidByText := true, laidKinds := [.data], laidTests := true, laidLooks := .later }
def GaugeTogetherCardSaid : Prop := Claim7.holds Tryd.pinned (.plain (OpenSpec.ofChange gaugeTogetherSpec)) gaugeTogetherCard

/-- THE TIED CARD OF 'spilelaw15.GaugeAnswers'. -/
def gaugeAnswersCard : Claim7 := { stood := { row := gaugeAnswersRow, standIns := [], harness := (true, "389c6a9e5236670a94dc21a1e3e9e61aaf0cf943d1235edc8bc53411af9c0946"), looks := false }, kinds := [], alts := [], laidByText := true, laidKinds := [.data], laidTests := true, laidLooks := .later }
def GaugeAnswersCardSaid : Prop := Claim7.holds Tryd.pinned (.plain (OpenSpec.ofChange gaugeAnswersSpec)) gaugeAnswersCard

/-- THE TIED CARD OF 'spilelaw16.DensityChecks'. -/
def densityChecksCard : Claim7 := { stood := { row := densityChecksRow, standIns := [], harness := (true, "389c6a9e5236670a94dc21a1e3e9e61aaf0cf943d1235edc8bc53411af9c0946"), looks := false }, kinds := [], alts := [], laidByText := true, laidKinds := [.data, .data, .data], laidTests := true, laidLooks := .later }
def DensityChecksCardSaid : Prop := Claim7.holds Tryd.pinned (.plain (OpenSpec.ofChange densityChecksSpec)) densityChecksCard

/-- THE SECOND FORM's CARD OF 'spilelaw15.GaugeReports'. -/
def gaugeReportsUptoCard : Claim7 := { stood := { row := gaugeReportsUptoRow, standIns := [], harness := (true, "389c6a9e5236670a94dc21a1e3e9e61aaf0cf943d1235edc8bc53411af9c0946"), looks := false }, kinds := [], alts := [], laidByText := true, laidKinds := [.data], laidTests := true, laidLooks := .later }
def GaugeReportsUptoCardSaid : Prop := Claim7.holds Tryd.pinned (.plain (OpenSpec.upto gaugeReportsSpec)) gaugeReportsUptoCard

/-- THE SECOND FORM's CARD OF 'spilelaw15.GaugeLists'. -/
def gaugeListsUptoCard : Claim7 := { stood := { row := gaugeListsUptoRow, standIns := [], harness := (true, "389c6a9e5236670a94dc21a1e3e9e61aaf0cf943d1235edc8bc53411af9c0946"), looks := false }, kinds := [], alts := [], laidByText := true, laidKinds := [.data], laidTests := true, laidLooks := .later }
def GaugeListsUptoCardSaid : Prop := Claim7.holds Tryd.pinned (.plain (OpenSpec.upto gaugeListsSpec)) gaugeListsUptoCard

/-- THE SECOND FORM's CARD OF 'spilelaw15.GaugeRight'. -/
def gaugeRightUptoCard : Claim7 := { stood := { row := gaugeRightUptoRow, standIns := [], harness := (true, "389c6a9e5236670a94dc21a1e3e9e61aaf0cf943d1235edc8bc53411af9c0946"), looks := false }, kinds := [], alts := [], laidByText := true, laidKinds := [.data], laidTests := true, laidLooks := .later }
def GaugeRightUptoCardSaid : Prop := Claim7.holds Tryd.pinned (.plain (OpenSpec.upto gaugeRightSpec)) gaugeRightUptoCard

/-- THE SECOND FORM's CARD OF 'spilelaw15.GaugeFiner'. -/
def gaugeFinerUptoCard : Claim7 := { stood := { row := gaugeFinerUptoRow, standIns := [], harness := (true, "389c6a9e5236670a94dc21a1e3e9e61aaf0cf943d1235edc8bc53411af9c0946"), looks := false }, kinds := [], alts := [], laidByText := true, laidKinds := [.data], laidTests := true, laidLooks := .later }
def GaugeFinerUptoCardSaid : Prop := Claim7.holds Tryd.pinned (.plain (OpenSpec.upto gaugeFinerSpec)) gaugeFinerUptoCard

/-- THE SECOND FORM's CARD OF 'spilelaw15.GaugeTogether'. -/
def gaugeTogetherUptoCard : Claim7 := { stood := { row := gaugeTogetherUptoRow, standIns := [], harness := (true, "389c6a9e5236670a94dc21a1e3e9e61aaf0cf943d1235edc8bc53411af9c0946"), looks := false }, kinds := [], alts := [], laidByText := true, laidKinds := [.data], laidTests := true, laidLooks := .later }
def GaugeTogetherUptoCardSaid : Prop := Claim7.holds Tryd.pinned (.plain (OpenSpec.upto gaugeTogetherSpec)) gaugeTogetherUptoCard

/-- THE SECOND FORM's CARD OF 'spilelaw15.GaugeAnswers'. -/
def gaugeAnswersUptoCard : Claim7 := { stood := { row := gaugeAnswersUptoRow, standIns := [], harness := (true, "389c6a9e5236670a94dc21a1e3e9e61aaf0cf943d1235edc8bc53411af9c0946"), looks := false }, kinds := [], alts := [], laidByText := true, laidKinds := [.data], laidTests := true, laidLooks := .later }
def GaugeAnswersUptoCardSaid : Prop := Claim7.holds Tryd.pinned (.plain (OpenSpec.upto gaugeAnswersSpec)) gaugeAnswersUptoCard

/-- THE SECOND FORM's CARD OF 'spilelaw16.DensityChecks'. -/
def densityChecksUptoCard : Claim7 := { stood := { row := densityChecksUptoRow, standIns := [], harness := (true, "389c6a9e5236670a94dc21a1e3e9e61aaf0cf943d1235edc8bc53411af9c0946"), looks := false }, kinds := [], alts := [], laidByText := true, laidKinds := [.data, .data, .data], laidTests := true, laidLooks := .later }
def DensityChecksUptoCardSaid : Prop := Claim7.holds Tryd.pinned (.plain (OpenSpec.upto densityChecksSpec)) densityChecksUptoCard
end Rows
end Go.Proofs.YtdpkochkpcjioabDoor
