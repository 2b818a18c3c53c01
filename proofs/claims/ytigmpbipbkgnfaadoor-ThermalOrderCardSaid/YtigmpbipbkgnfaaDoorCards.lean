/-
  DERIVED. GIVEN WITH THE SEED: THE CARDS: each row of YtigmpbipbkgnfaaDoorRows.lean that lists a variable, with what it lists TIED to the program's text (the seventh form; the later family's looks); each row that meets fmt, with fmt's text TOLD by the authors' own Lean function (tested against real Go, not proved from fmt's source: count such statements apart). THE CARD IS WHAT COUNTS. Prove the row's statement (the work); the ties are given (YtigmpbipbkgnfaaDoorTie.lean); close each card by the builder's one call (the guide's Derived/Test/ToyasCard.lean, 'card_holds'). Laid BY PROGRAM, IN A SANDBOX (cutbox-door.mjs). By AI agents, Wed Nov 11 2026. No macro, syntax, notation, axiom, sorry.
-/
import Derived.Test.YtigmpbipbkgnfaaDoorRows
import GoSem.ClaimSeven
namespace Go.Proofs.YtigmpbipbkgnfaaDoor
namespace Rows

/-- THE TIED CARD OF 'spilelaw05.ThermalCorrects'. -/
def thermalCorrectsCard : Claim7 := { stood := { row := thermalCorrectsRow, standIns := [], harness := (true, "fb3513cfdaf8b5d58e08541f5c3c76f86411d3ccc8ddb797b50d6230106cd73b"), looks := false }, kinds := [], alts := [], laidByText := true, laidKinds := [.data], laidTests := true, laidLooks := .later }
def ThermalCorrectsCardSaid : Prop := Claim7.holds Tryd.pinned (.plain (OpenSpec.ofChange thermalCorrectsSpec)) thermalCorrectsCard

/-- THE TIED CARD OF 'spilelaw05.ThermalBounds'. -/
def thermalBoundsCard : Claim7 := { stood := { row := thermalBoundsRow, standIns := [], harness := (true, "fb3513cfdaf8b5d58e08541f5c3c76f86411d3ccc8ddb797b50d6230106cd73b"), looks := false }, kinds := [], alts := [], laidByText := true, laidKinds := [.data], laidTests := true, laidLooks := .later }
def ThermalBoundsCardSaid : Prop := Claim7.holds Tryd.pinned (.plain (OpenSpec.ofChange thermalBoundsSpec)) thermalBoundsCard

/-- THE TIED CARD OF 'spilelaw05.ThermalBack'. -/
def thermalBackCard : Claim7 := { stood := { row := thermalBackRow, standIns := [], harness := (true, "fb3513cfdaf8b5d58e08541f5c3c76f86411d3ccc8ddb797b50d6230106cd73b"), looks := false }, kinds := [], alts := [], laidByText := true, laidKinds := [.data], laidTests := true, laidLooks := .later }
def ThermalBackCardSaid : Prop := Claim7.holds Tryd.pinned (.plain (OpenSpec.ofChange thermalBackSpec)) thermalBackCard

/-- THE TIED CARD OF 'spilelaw05.ThermalOrder'. -/
def thermalOrderCard : Claim7 := { stood := { row := thermalOrderRow, standIns := [], harness := (true, "fb3513cfdaf8b5d58e08541f5c3c76f86411d3ccc8ddb797b50d6230106cd73b"), looks := false }, kinds := [], alts := [], laidByText := true, laidKinds := [.data], laidTests := true, laidLooks := .later }
def ThermalOrderCardSaid : Prop := Claim7.holds Tryd.pinned (.plain (OpenSpec.ofChange thermalOrderSpec)) thermalOrderCard

/-- THE TIED CARD OF 'spilelaw05.ThermalContains'. -/
def thermalContainsCard : Claim7 := { stood := { row := thermalContainsRow, standIns := [], harness := (true, "fb3513cfdaf8b5d58e08541f5c3c76f86411d3ccc8ddb797b50d6230106cd73b"), looks := false }, kinds := [], alts := [], laidByText := true, laidKinds := [.data], laidTests := true, laidLooks := .later }
def ThermalContainsCardSaid : Prop := Claim7.holds Tryd.pinned (.plain (OpenSpec.ofChange thermalContainsSpec)) thermalContainsCard

/-- THE TIED CARD OF 'spilelaw05.ThermalMeans'. -/
def thermalMeansCard : Claim7 := { stood := { row := thermalMeansRow, standIns := [], harness := (true, "fb3513cfdaf8b5d58e08541f5c3c76f86411d3ccc8ddb797b50d6230106cd73b"), looks := false }, kinds := [], alts := [], laidByText := true, laidKinds := [.data], laidTests := true, laidLooks := .later }
def ThermalMeansCardSaid : Prop := Claim7.holds Tryd.pinned (.plain (OpenSpec.ofChange thermalMeansSpec)) thermalMeansCard

/-- THE SECOND FORM's CARD OF 'spilelaw05.ThermalCorrects'. -/
def thermalCorrectsUptoCard : Claim7 := { stood := { row := thermalCorrectsUptoRow, standIns := [], harness := (true, "fb3513cfdaf8b5d58e08541f5c3c76f86411d3ccc8ddb797b50d6230106cd73b"), looks := false }, kinds := [], alts := [], laidByText := true, laidKinds := [.data], laidTests := true, laidLooks := .later }
def ThermalCorrectsUptoCardSaid : Prop := Claim7.holds Tryd.pinned (.plain (OpenSpec.upto thermalCorrectsSpec)) thermalCorrectsUptoCard

/-- THE SECOND FORM's CARD OF 'spilelaw05.ThermalBounds'. -/
def thermalBoundsUptoCard : Claim7 := { stood := { row := thermalBoundsUptoRow, standIns := [], harness := (true, "fb3513cfdaf8b5d58e08541f5c3c76f86411d3ccc8ddb797b50d6230106cd73b"), looks := false }, kinds := [], alts := [], laidByText := true, laidKinds := [.data], laidTests := true, laidLooks := .later }
def ThermalBoundsUptoCardSaid : Prop := Claim7.holds Tryd.pinned (.plain (OpenSpec.upto thermalBoundsSpec)) thermalBoundsUptoCard

/-- THE SECOND FORM's CARD OF 'spilelaw05.ThermalBack'. -/
def thermalBackUptoCard : Claim7 := { stood := { row := thermalBackUptoRow, standIns := [], harness := (true, "fb3513cfdaf8b5d58e08541f5c3c76f86411d3ccc8ddb797b50d6230106cd73b"), looks := false }, kinds := [], alts := [], laidByText := true, laidKinds := [.data], laidTests := true, laidLooks := .later }
def ThermalBackUptoCardSaid : Prop := Claim7.holds Tryd.pinned (.plain (OpenSpec.upto thermalBackSpec)) thermalBackUptoCard

/-- THE SECOND FORM's CARD OF 'spilelaw05.ThermalOrder'. -/
def thermalOrderUptoCard : Claim7 := { stood := { row := thermalOrderUptoRow, standIns := [], harness := (true, "fb3513cfdaf8b5d58e08541f5c3c76f86411d3ccc8ddb797b50d6230106cd73b"), looks := false }, kinds := [], alts := [], laidByText := true, laidKinds := [.data], laidTests := true, laidLooks := .later }
def ThermalOrderUptoCardSaid : Prop := Claim7.holds Tryd.pinned (.plain (OpenSpec.upto thermalOrderSpec)) thermalOrderUptoCard

/-- THE SECOND FORM's CARD OF 'spilelaw05.ThermalContains'. -/
def thermalContainsUptoCard : Claim7 := { stood := { row := thermalContainsUptoRow, standIns := [], harness := (true, "fb3513cfdaf8b5d58e08541f5c3c76f86411d3ccc8ddb797b50d6230106cd73b"), looks := false }, kinds := [], alts := [], laidByText := true, laidKinds := [.data], laidTests := true, laidLooks := .later }
def ThermalContainsUptoCardSaid : Prop := Claim7.holds Tryd.pinned (.plain (OpenSpec.upto thermalContainsSpec)) thermalContainsUptoCard

/-- THE SECOND FORM's CARD OF 'spilelaw05.ThermalMeans'. -/
def thermalMeansUptoCard : Claim7 := { stood := { row := thermalMeansUptoRow, standIns := [], harness := (true, "fb3513cfdaf8b5d58e08541f5c3c76f86411d3ccc8ddb797b50d6230106cd73b"), looks := false }, kinds := [], alts := [], laidByText := true, laidKinds := [.data], laidTests := true, laidLooks := .later }
def ThermalMeansUptoCardSaid : Prop := Claim7.holds Tryd.pinned (.plain (OpenSpec.upto thermalMeansSpec)) thermalMeansUptoCard
end Rows
end Go.Proofs.YtigmpbipbkgnfaaDoor
