/-
  DERIVED. GIVEN WITH THE SEED: THE CARDS: each row of YtlpngfngdigchabDoorRows.lean that lists a variable, with what it lists TIED to the program's text (the seventh form; the later family's looks); each row that meets fmt, with fmt's text TOLD by the authors' own Lean function (tested against real Go, not proved from fmt's source: count such statements apart). THE CARD IS WHAT COUNTS. Prove the row's statement (the work); the ties are given (YtlpngfngdigchabDoorTie.lean); close each card by the builder's one call (the guide's Derived/Test/ToyasCard.lean, 'card_holds'). Laid BY PROGRAM, IN A SANDBOX (cutbox-door.mjs). By AI agents, Wed Nov 11 2026. No macro, syntax, notation, axiom, sorry.
-/
import Derived.Test.YtlpngfngdigchabDoorRows
import GoSem.ClaimSeven
namespace Go.Proofs.YtlpngfngdigchabDoor
namespace Rows

/-- THE TIED CARD OF 'spilelaw02.RoundingAgrees'. -/
def roundingAgreesCard : Claim7 := { stood := { row := roundingAgreesRow, standIns := [], harness := (true, "5a01a6113fcbb9249a67b72d5614be6bb99a0688c0e9cbe02620bf2367eef032"), looks := false }, kinds := [], alts := [], laidByText := true, laidKinds := [.data], laidTests := true, laidLooks := .later }
def RoundingAgreesCardSaid : Prop := Claim7.holds Tryd.pinned (.plain (OpenSpec.ofChange roundingAgreesSpec)) roundingAgreesCard

/-- THE SECOND FORM's CARD OF 'spilelaw02.RoundingAgrees'. -/
def roundingAgreesUptoCard : Claim7 := { stood := { row := roundingAgreesUptoRow, standIns := [], harness := (true, "5a01a6113fcbb9249a67b72d5614be6bb99a0688c0e9cbe02620bf2367eef032"), looks := false }, kinds := [], alts := [], laidByText := true, laidKinds := [.data], laidTests := true, laidLooks := .later }
def RoundingAgreesUptoCardSaid : Prop := Claim7.holds Tryd.pinned (.plain (OpenSpec.upto roundingAgreesSpec)) roundingAgreesUptoCard
end Rows
end Go.Proofs.YtlpngfngdigchabDoor
