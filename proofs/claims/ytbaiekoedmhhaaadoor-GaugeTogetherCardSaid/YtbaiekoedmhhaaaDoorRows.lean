/-
  NARROWER THAN 'FOR EVERY INPUT', by the rows' own cells (each row's printed sentence says how): GaugeLists: laid · GaugeFiner: laid · GaugeTogether: laid.
  DERIVED. THE GIVEN ROWS OF THIS SEAT. 3 by the template 'for every input the law returns true; each argument reads behind the call as it read before'; 0 by the template 'total and deterministic' (their statements: YtbaiekoedmhhaaaDoorTotals.lean).
  GIVEN WITH THE SEED: the statements are not yours to turn. If you find one false, say at which input.
  Laid BY PROGRAM, IN A SANDBOX (cutbox-rows.mjs): the forced cells as the released guide's own fill.sh prints them over the translation eadb7e25e6e32e8b… (all of the seat's roots in one cut). By AI agents, Wed Nov 11 2026. No macro, syntax, notation, axiom, sorry.
-/
import Derived.Test.YtbaiekoedmhhaaaDoorChecked
import GoSem.Claim
import GoSem.ClaimJoined
import GoSem.ClaimMapViews
import Derived.JoinedTies
import Derived.KernelRfl
namespace Go.Proofs.YtbaiekoedmhhaaaDoor
/- THE CELL 'sum', in the pinned program and in every row, IS THE sha256 OF THE DUMP (.gsa) THAT YtbaiekoedmhhaaaDoorProg.lean LOADS. Nothing in Lean hashes anything: it is a label: what it is worth is what the hold of that sum in a sandbox is worth. -/
noncomputable def Tryd.pinned : Pinned := { name := "ytbaiekoedmhhaaadoor", sum := "eadb7e25e6e32e8bf9a8038e56f692d14f2bc0e29878fde8ded62edaef9b99c2", checked := Tryd.checked }
namespace Rows
def none {H : Type} : Left H := { results := [], args := [] }

/- WHAT THE LISTED PACKAGE-LEVEL VARIABLES READ AS WHEN THE CALL BEGINS. Each datum BY PROGRAM (the guide's laid-datum.mjs) off the statement by which the dump's own 'gosem.cut.vars' lays the variable. In a bare row this is a premise. The card (YtbaiekoedmhhaaaDoorCards.lean) ties it to the program's text. -/
def laid_spile_rounding_words {H : Type} : DataW H := .agg [.lit (.string []), .lit (.string [100, 111, 119, 110]), .lit (.string [117, 112]), .lit (.string [104, 97, 108, 102, 45, 117, 112]), .lit (.string [104, 97, 108, 102, 45, 101, 118, 101, 110])]

/-- 'spilelaw15.GaugeLists': WHATEVER THE INPUT: true; the input reads as it did. -/
def gaugeListsSpec : ChangeSpec := { name := "gaugeLists", fn := fun _ => fun
  | [d1, d2] => { results := [.lit (.bool true)], args := [d1, d2] }
  | _ => none }
def gaugeListsRow : OpenClaim := { program := "ytbaiekoedmhhaaadoor", sum := "eadb7e25e6e32e8bf9a8038e56f692d14f2bc0e29878fde8ded62edaef9b99c2", func := "spile/spilelaw15.GaugeLists", spec := "gaugeLists", unfollowed := true, recurses := true, named := ["spile/rounding.words", "math/bits.divideError", "math/bits.overflowError"], apart := false, laid := [("spile/rounding.words", laid_spile_rounding_words)] }
def GaugeListsSaid : Prop := gaugeListsRow.holds Tryd.pinned (OpenSpec.ofChange gaugeListsSpec)

/-- ITS FALSE NEIGHBOUR: 'it returns false'. Refute it at one input. -/
def gaugeListsWrong : ChangeSpec := { name := "gaugeLists", fn := fun _ => fun
  | [d1, d2] => { results := [.lit (.bool false)], args := [d1, d2] }
  | _ => none }
def GaugeListsWrongFalsely : Prop := gaugeListsRow.holds Tryd.pinned (OpenSpec.ofChange gaugeListsWrong)

/-- 'spilelaw15.GaugeFiner': WHATEVER THE INPUT: true; the input reads as it did. -/
def gaugeFinerSpec : ChangeSpec := { name := "gaugeFiner", fn := fun _ => fun
  | [d1, d2, d3] => { results := [.lit (.bool true)], args := [d1, d2, d3] }
  | _ => none }
def gaugeFinerRow : OpenClaim := { program := "ytbaiekoedmhhaaadoor", sum := "eadb7e25e6e32e8bf9a8038e56f692d14f2bc0e29878fde8ded62edaef9b99c2", func := "spile/spilelaw15.GaugeFiner", spec := "gaugeFiner", unfollowed := true, recurses := true, named := ["spile/rounding.words", "math/bits.divideError", "math/bits.overflowError"], apart := false, laid := [("spile/rounding.words", laid_spile_rounding_words)] }
def GaugeFinerSaid : Prop := gaugeFinerRow.holds Tryd.pinned (OpenSpec.ofChange gaugeFinerSpec)

/-- ITS FALSE NEIGHBOUR: 'it returns false'. Refute it at one input. -/
def gaugeFinerWrong : ChangeSpec := { name := "gaugeFiner", fn := fun _ => fun
  | [d1, d2, d3] => { results := [.lit (.bool false)], args := [d1, d2, d3] }
  | _ => none }
def GaugeFinerWrongFalsely : Prop := gaugeFinerRow.holds Tryd.pinned (OpenSpec.ofChange gaugeFinerWrong)

/-- 'spilelaw15.GaugeTogether': WHATEVER THE INPUT: true; the input reads as it did. -/
def gaugeTogetherSpec : ChangeSpec := { name := "gaugeTogether", fn := fun _ => fun
  | [d] => { results := [.lit (.bool true)], args := [d] }
  | _ => none }
def gaugeTogetherRow : OpenClaim := { program := "ytbaiekoedmhhaaadoor", sum := "eadb7e25e6e32e8bf9a8038e56f692d14f2bc0e29878fde8ded62edaef9b99c2", func := "spile/spilelaw15.GaugeTogether", spec := "gaugeTogether", unfollowed := true, recurses := true, named := ["spile/rounding.words", "math/bits.divideError", "math/bits.overflowError"], apart := false, laid := [("spile/rounding.words", laid_spile_rounding_words)] }
def GaugeTogetherSaid : Prop := gaugeTogetherRow.holds Tryd.pinned (OpenSpec.ofChange gaugeTogetherSpec)

/-- ITS FALSE NEIGHBOUR: 'it returns false'. Refute it at one input. -/
def gaugeTogetherWrong : ChangeSpec := { name := "gaugeTogether", fn := fun _ => fun
  | [d] => { results := [.lit (.bool false)], args := [d] }
  | _ => none }
def GaugeTogetherWrongFalsely : Prop := gaugeTogetherRow.holds Tryd.pinned (OpenSpec.ofChange gaugeTogetherWrong)

/- THE SECOND FORM. 'bulk': how many values and letters a reading holds, each counted each time it is reached (what is shared counts as often as it is met; a slice's spare places count too). A statement '..UptoSaid' is the law's where the arguments, and the package variables that the reading takes, are together of bulk at most 1048576: NARROWER than '..Said'. Prove '..Said' where nothing that the law and all that it calls make is longer than what came in: it says more and counts as full. Else prove '..UptoSaid'. A law counts once. -/
mutual
def uptoBulk {H : Type} : DataW H → Nat
  | .lit (.string bytes) => bytes.length + 1
  | .lit _ => 1
  | .nil => 1
  | .ptr d => uptoBulk d + 1
  | .slice elems spare => uptoBulkAll elems + uptoBulkAll spare + 1
  | .agg parts => uptoBulkAll parts + 1
  | .iface _ d => uptoBulk d + 1
  | .map entries => uptoBulkEntries entries + 1
  | .held _ => 1
def uptoBulkAll {H : Type} : List (DataW H) → Nat
  | [] => 0
  | d :: r => uptoBulk d + uptoBulkAll r
def uptoBulkEntries {H : Type} : List (Lit × DataW H) → Nat
  | [] => 0
  | x :: r => uptoBulkEntry x + uptoBulkEntries r
def uptoBulkEntry {H : Type} : Lit × DataW H → Nat
  | (.string bytes, d) => bytes.length + uptoBulk d + 1
  | (_, d) => uptoBulk d + 1
 end
def uptoSmall : (H : Type) → List (DataW H) → Bool := fun _ ds => decide (uptoBulkAll ds ≤ 1048576)
def OpenSpec.upto (s : _root_.Go.ChangeSpec) : _root_.Go.OpenSpec := { _root_.Go.OpenSpec.ofChange s with cond := some uptoSmall }

/-- 'spilelaw15.GaugeLists', WHERE WHAT IT READS IS OF BULK AT MOST 1048576: true; the input reads as it did. -/
def gaugeListsUptoRow : OpenClaim := { program := "ytbaiekoedmhhaaadoor", sum := "eadb7e25e6e32e8bf9a8038e56f692d14f2bc0e29878fde8ded62edaef9b99c2", func := "spile/spilelaw15.GaugeLists", spec := "gaugeLists", unfollowed := true, recurses := true, named := ["spile/rounding.words", "math/bits.divideError", "math/bits.overflowError"], apart := false, laid := [("spile/rounding.words", laid_spile_rounding_words)], narrowed := true }
def GaugeListsUptoSaid : Prop := gaugeListsUptoRow.holds Tryd.pinned (OpenSpec.upto gaugeListsSpec)

/-- 'spilelaw15.GaugeFiner', WHERE WHAT IT READS IS OF BULK AT MOST 1048576: true; the input reads as it did. -/
def gaugeFinerUptoRow : OpenClaim := { program := "ytbaiekoedmhhaaadoor", sum := "eadb7e25e6e32e8bf9a8038e56f692d14f2bc0e29878fde8ded62edaef9b99c2", func := "spile/spilelaw15.GaugeFiner", spec := "gaugeFiner", unfollowed := true, recurses := true, named := ["spile/rounding.words", "math/bits.divideError", "math/bits.overflowError"], apart := false, laid := [("spile/rounding.words", laid_spile_rounding_words)], narrowed := true }
def GaugeFinerUptoSaid : Prop := gaugeFinerUptoRow.holds Tryd.pinned (OpenSpec.upto gaugeFinerSpec)

/-- 'spilelaw15.GaugeTogether', WHERE WHAT IT READS IS OF BULK AT MOST 1048576: true; the input reads as it did. -/
def gaugeTogetherUptoRow : OpenClaim := { program := "ytbaiekoedmhhaaadoor", sum := "eadb7e25e6e32e8bf9a8038e56f692d14f2bc0e29878fde8ded62edaef9b99c2", func := "spile/spilelaw15.GaugeTogether", spec := "gaugeTogether", unfollowed := true, recurses := true, named := ["spile/rounding.words", "math/bits.divideError", "math/bits.overflowError"], apart := false, laid := [("spile/rounding.words", laid_spile_rounding_words)], narrowed := true }
def GaugeTogetherUptoSaid : Prop := gaugeTogetherUptoRow.holds Tryd.pinned (OpenSpec.upto gaugeTogetherSpec)

end Rows
end Go.Proofs.YtbaiekoedmhhaaaDoor
