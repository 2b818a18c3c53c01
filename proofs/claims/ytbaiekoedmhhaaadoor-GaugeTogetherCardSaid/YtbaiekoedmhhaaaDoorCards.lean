/-
  DERIVED. GIVEN WITH THE SEED: THE CARDS: each row of YtbaiekoedmhhaaaDoorRows.lean that lists a variable, with what it lists TIED to the program's text (the seventh form; the later family's looks); each row that meets fmt, with fmt's text TOLD by the authors' own Lean function (tested against real Go, not proved from fmt's source: count such statements apart). THE CARD IS WHAT COUNTS. Prove the row's statement (the work); the ties are given (YtbaiekoedmhhaaaDoorTie.lean); close each card by the builder's one call (the guide's Derived/Test/ToyasCard.lean, 'card_holds'). Laid BY PROGRAM, IN A SANDBOX (cutbox-door.mjs). By AI agents, Wed Nov 11 2026. No macro, syntax, notation, axiom, sorry.
-/
import Derived.Test.YtbaiekoedmhhaaaDoorRows
import GoSem.ClaimSeven
namespace Go.Proofs.YtbaiekoedmhhaaaDoor
namespace Rows

/-- THE TIED CARD OF 'spilelaw15.GaugeLists'. -/
def gaugeListsCard : Claim7 := { stood := { row := gaugeListsRow, standIns := [], harness := (true, "473293021fbf4f94b83a9a47cddb1bf685f43884c81f7edb575aa1dc6d9a937d"), looks := false }, kinds := [], alts := [], laidByText := true, laidKinds := [.data], laidTests := true, laidLooks := .later }
def GaugeListsCardSaid : Prop := Claim7.holds Tryd.pinned (.plain (OpenSpec.ofChange gaugeListsSpec)) gaugeListsCard

/-- THE TIED CARD OF 'spilelaw15.GaugeFiner'. -/
def gaugeFinerCard : Claim7 := { stood := { row := gaugeFinerRow, standIns := [], harness := (true, "473293021fbf4f94b83a9a47cddb1bf685f43884c81f7edb575aa1dc6d9a937d"), looks := false }, kinds := [], alts := [], laidByText := true, laidKinds := [.data], laidTests := true, laidLooks := .later }
def GaugeFinerCardSaid : Prop := Claim7.holds Tryd.pinned (.plain (OpenSpec.ofChange gaugeFinerSpec)) gaugeFinerCard

/-- THE TIED CARD OF 'spilelaw15.GaugeTogether'. -/
def gaugeTogetherCard : Claim7 := { stood := { row := gaugeTogetherRow, standIns := [], harness := (true, "473293021fbf4f94b83a9a47cddb1bf685f43884c81f7edb575aa1dc6d9a937d"), looks := false }, kinds := [], alts := [], laidByText := true, laidKinds := [.data], laidTests := true, laidLooks := .later }
def GaugeTogetherCardSaid : Prop := Claim7.holds Tryd.pinned (.plain (OpenSpec.ofChange gaugeTogetherSpec)) gaugeTogetherCard

/-- THE SECOND FORM's CARD OF 'spilelaw15.GaugeLists'. -/
def gaugeListsUptoCard : Claim7 := { stood := { row := gaugeListsUptoRow, standIns := [], harness := (true, "473293021fbf4f94b83a9a47cddb1bf685f43884c81f7edb575aa1dc6d9a937d"), looks := false }, kinds := [], alts := [], laidByText := true, laidKinds := [.data], laidTests := true, laidLooks := .later }
def GaugeListsUptoCardSaid : Prop := Claim7.holds Tryd.pinned (.plain (OpenSpec.upto gaugeListsSpec)) gaugeListsUptoCard

/-- THE SECOND FORM's CARD OF 'spilelaw15.GaugeFiner'. -/
def gaugeFinerUptoCard : Claim7 := { stood := { row := gaugeFinerUptoRow, standIns := [], harness := (true, "473293021fbf4f94b83a9a47cddb1bf685f43884c81f7edb575aa1dc6d9a937d"), looks := false }, kinds := [], alts := [], laidByText := true, laidKinds := [.data], laidTests := true, laidLooks := .later }
def GaugeFinerUptoCardSaid : Prop := Claim7.holds Tryd.pinned (.plain (OpenSpec.upto gaugeFinerSpec)) gaugeFinerUptoCard

/-- THE SECOND FORM's CARD OF 'spilelaw15.GaugeTogether'. -/
def gaugeTogetherUptoCard : Claim7 := { stood := { row := gaugeTogetherUptoRow, standIns := [], harness := (true, "473293021fbf4f94b83a9a47cddb1bf685f43884c81f7edb575aa1dc6d9a937d"), looks := false }, kinds := [], alts := [], laidByText := true, laidKinds := [.data], laidTests := true, laidLooks := .later }
def GaugeTogetherUptoCardSaid : Prop := Claim7.holds Tryd.pinned (.plain (OpenSpec.upto gaugeTogetherSpec)) gaugeTogetherUptoCard
end Rows
end Go.Proofs.YtbaiekoedmhhaaaDoor
