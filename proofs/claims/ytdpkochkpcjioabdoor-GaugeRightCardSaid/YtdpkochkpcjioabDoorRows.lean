/-
  NARROWER THAN 'FOR EVERY INPUT', by the rows' own cells (each row's printed sentence says how): GaugeReports: laid · GaugeLists: laid · GaugeRight: laid · GaugeFiner: laid · GaugeTogether: laid · GaugeAnswers: laid · DensityChecks: laid.
  DERIVED. THE GIVEN ROWS OF THIS SEAT. 7 by the template 'for every input the law returns true; each argument reads behind the call as it read before'; 0 by the template 'total and deterministic' (their statements: YtdpkochkpcjioabDoorTotals.lean).
  GIVEN WITH THE SEED: the statements are not yours to turn. If you find one false, say at which input.
  Laid BY PROGRAM, IN A SANDBOX (cutbox-rows.mjs): the forced cells as the released guide's own fill.sh prints them over the translation 7a35a2774b5424f3… (all of the seat's roots in one cut). By AI agents, Wed Nov 11 2026. No macro, syntax, notation, axiom, sorry.
-/
import Derived.Test.YtdpkochkpcjioabDoorChecked
import GoSem.Claim
import GoSem.ClaimJoined
import GoSem.ClaimMapViews
import Derived.JoinedTies
import Derived.KernelRfl
namespace Go.Proofs.YtdpkochkpcjioabDoor
/- THE CELL 'sum', in the pinned program and in every row, IS THE sha256 OF THE DUMP (.gsa) THAT YtdpkochkpcjioabDoorProg.lean LOADS. Nothing in Lean hashes anything: it is a label: what it is worth is what the hold of that sum in a sandbox is worth. -/
noncomputable def Tryd.pinned : Pinned := { name := "ytdpkochkpcjioabdoor", sum := "7a35a2774b5424f3438ce5054940108b9c06f3569e0983633f93e10ad73ad53b", checked := Tryd.checked }
namespace Rows
def none {H : Type} : Left H := { results := [], args := [] }

/- WHAT THE LISTED PACKAGE-LEVEL VARIABLES READ AS WHEN THE CALL BEGINS. Each datum BY PROGRAM (the guide's laid-datum.mjs) off the statement by which the dump's own 'gosem.cut.vars' lays the variable. In a bare row this is a premise. The card (YtdpkochkpcjioabDoorCards.lean) ties it to the program's text. -/
def laid_spile_rounding_words {H : Type} : DataW H := .agg [.lit (.string []), .lit (.string [100, 111, 119, 110]), .lit (.string [117, 112]), .lit (.string [104, 97, 108, 102, 45, 117, 112]), .lit (.string [104, 97, 108, 102, 45, 101, 118, 101, 110])]
def laid_math_bits_deBruijn32tab {H : Type} : DataW H := .agg [.lit (.int .u8 0), .lit (.int .u8 1), .lit (.int .u8 28), .lit (.int .u8 2), .lit (.int .u8 29), .lit (.int .u8 14), .lit (.int .u8 24), .lit (.int .u8 3), .lit (.int .u8 30), .lit (.int .u8 22), .lit (.int .u8 20), .lit (.int .u8 15), .lit (.int .u8 25), .lit (.int .u8 17), .lit (.int .u8 4), .lit (.int .u8 8), .lit (.int .u8 31), .lit (.int .u8 27), .lit (.int .u8 13), .lit (.int .u8 23), .lit (.int .u8 21), .lit (.int .u8 19), .lit (.int .u8 16), .lit (.int .u8 7), .lit (.int .u8 26), .lit (.int .u8 12), .lit (.int .u8 18), .lit (.int .u8 6), .lit (.int .u8 11), .lit (.int .u8 5), .lit (.int .u8 10), .lit (.int .u8 9)]
def laid_math_bits_deBruijn64tab {H : Type} : DataW H := .agg [.lit (.int .u8 0), .lit (.int .u8 1), .lit (.int .u8 56), .lit (.int .u8 2), .lit (.int .u8 57), .lit (.int .u8 49), .lit (.int .u8 28), .lit (.int .u8 3), .lit (.int .u8 61), .lit (.int .u8 58), .lit (.int .u8 42), .lit (.int .u8 50), .lit (.int .u8 38), .lit (.int .u8 29), .lit (.int .u8 17), .lit (.int .u8 4), .lit (.int .u8 62), .lit (.int .u8 47), .lit (.int .u8 59), .lit (.int .u8 36), .lit (.int .u8 45), .lit (.int .u8 43), .lit (.int .u8 51), .lit (.int .u8 22), .lit (.int .u8 53), .lit (.int .u8 39), .lit (.int .u8 33), .lit (.int .u8 30), .lit (.int .u8 24), .lit (.int .u8 18), .lit (.int .u8 12), .lit (.int .u8 5), .lit (.int .u8 63), .lit (.int .u8 55), .lit (.int .u8 48), .lit (.int .u8 27), .lit (.int .u8 60), .lit (.int .u8 41), .lit (.int .u8 37), .lit (.int .u8 16), .lit (.int .u8 46), .lit (.int .u8 35), .lit (.int .u8 44), .lit (.int .u8 21), .lit (.int .u8 52), .lit (.int .u8 32), .lit (.int .u8 23), .lit (.int .u8 11), .lit (.int .u8 54), .lit (.int .u8 26), .lit (.int .u8 40), .lit (.int .u8 15), .lit (.int .u8 34), .lit (.int .u8 20), .lit (.int .u8 31), .lit (.int .u8 10), .lit (.int .u8 25), .lit (.int .u8 14), .lit (.int .u8 19), .lit (.int .u8 9), .lit (.int .u8 13), .lit (.int .u8 8), .lit (.int .u8 7), .lit (.int .u8 6)]
def laid_internal_strconv_uint64pow10 {H : Type} : DataW H := .agg [.lit (.int .u64 1), .lit (.int .u64 10), .lit (.int .u64 100), .lit (.int .u64 1000), .lit (.int .u64 10000), .lit (.int .u64 100000), .lit (.int .u64 1000000), .lit (.int .u64 10000000), .lit (.int .u64 100000000), .lit (.int .u64 1000000000), .lit (.int .u64 10000000000), .lit (.int .u64 100000000000), .lit (.int .u64 1000000000000), .lit (.int .u64 10000000000000), .lit (.int .u64 100000000000000), .lit (.int .u64 1000000000000000), .lit (.int .u64 10000000000000000), .lit (.int .u64 100000000000000000), .lit (.int .u64 1000000000000000000), .lit (.int .u64 10000000000000000000)]

/-- 'spilelaw15.GaugeReports': WHATEVER THE INPUT: true; the input reads as it did. -/
def gaugeReportsSpec : ChangeSpec := { name := "gaugeReports", fn := fun _ => fun
  | [d1, d2, d3] => { results := [.lit (.bool true)], args := [d1, d2, d3] }
  | _ => none }
def gaugeReportsRow : OpenClaim := { program := "ytdpkochkpcjioabdoor", sum := "7a35a2774b5424f3438ce5054940108b9c06f3569e0983633f93e10ad73ad53b", func := "spile/spilelaw15.GaugeReports", spec := "gaugeReports", unfollowed := true, recurses := true, named := ["spile/rounding.words", "math/bits.divideError", "math/bits.overflowError"], apart := false, laid := [("spile/rounding.words", laid_spile_rounding_words)] }
def GaugeReportsSaid : Prop := gaugeReportsRow.holds Tryd.pinned (OpenSpec.ofChange gaugeReportsSpec)

/-- ITS FALSE NEIGHBOUR: 'it returns false'. Refute it at one input. -/
def gaugeReportsWrong : ChangeSpec := { name := "gaugeReports", fn := fun _ => fun
  | [d1, d2, d3] => { results := [.lit (.bool false)], args := [d1, d2, d3] }
  | _ => none }
def GaugeReportsWrongFalsely : Prop := gaugeReportsRow.holds Tryd.pinned (OpenSpec.ofChange gaugeReportsWrong)

/-- 'spilelaw15.GaugeLists': WHATEVER THE INPUT: true; the input reads as it did. -/
def gaugeListsSpec : ChangeSpec := { name := "gaugeLists", fn := fun _ => fun
  | [d1, d2] => { results := [.lit (.bool true)], args := [d1, d2] }
  | _ => none }
def gaugeListsRow : OpenClaim := { program := "ytdpkochkpcjioabdoor", sum := "7a35a2774b5424f3438ce5054940108b9c06f3569e0983633f93e10ad73ad53b", func := "spile/spilelaw15.GaugeLists", spec := "gaugeLists", unfollowed := true, recurses := true, named := ["spile/rounding.words", "math/bits.divideError", "math/bits.overflowError"], apart := false, laid := [("spile/rounding.words", laid_spile_rounding_words)] }
def GaugeListsSaid : Prop := gaugeListsRow.holds Tryd.pinned (OpenSpec.ofChange gaugeListsSpec)

/-- ITS FALSE NEIGHBOUR: 'it returns false'. Refute it at one input. -/
def gaugeListsWrong : ChangeSpec := { name := "gaugeLists", fn := fun _ => fun
  | [d1, d2] => { results := [.lit (.bool false)], args := [d1, d2] }
  | _ => none }
def GaugeListsWrongFalsely : Prop := gaugeListsRow.holds Tryd.pinned (OpenSpec.ofChange gaugeListsWrong)

/-- 'spilelaw15.GaugeRight': WHATEVER THE INPUT: true; the input reads as it did. -/
def gaugeRightSpec : ChangeSpec := { name := "gaugeRight", fn := fun _ => fun
  | [d1, d2, d3, d4] => { results := [.lit (.bool true)], args := [d1, d2, d3, d4] }
  | _ => none }
def gaugeRightRow : OpenClaim := { program := "ytdpkochkpcjioabdoor", sum := "7a35a2774b5424f3438ce5054940108b9c06f3569e0983633f93e10ad73ad53b", func := "spile/spilelaw15.GaugeRight", spec := "gaugeRight", unfollowed := true, recurses := true, named := ["spile/rounding.words", "math/bits.divideError", "math/bits.overflowError"], apart := false, laid := [("spile/rounding.words", laid_spile_rounding_words)] }
def GaugeRightSaid : Prop := gaugeRightRow.holds Tryd.pinned (OpenSpec.ofChange gaugeRightSpec)

/-- ITS FALSE NEIGHBOUR: 'it returns false'. Refute it at one input. -/
def gaugeRightWrong : ChangeSpec := { name := "gaugeRight", fn := fun _ => fun
  | [d1, d2, d3, d4] => { results := [.lit (.bool false)], args := [d1, d2, d3, d4] }
  | _ => none }
def GaugeRightWrongFalsely : Prop := gaugeRightRow.holds Tryd.pinned (OpenSpec.ofChange gaugeRightWrong)

/-- 'spilelaw15.GaugeFiner': WHATEVER THE INPUT: true; the input reads as it did. -/
def gaugeFinerSpec : ChangeSpec := { name := "gaugeFiner", fn := fun _ => fun
  | [d1, d2, d3] => { results := [.lit (.bool true)], args := [d1, d2, d3] }
  | _ => none }
def gaugeFinerRow : OpenClaim := { program := "ytdpkochkpcjioabdoor", sum := "7a35a2774b5424f3438ce5054940108b9c06f3569e0983633f93e10ad73ad53b", func := "spile/spilelaw15.GaugeFiner", spec := "gaugeFiner", unfollowed := true, recurses := true, named := ["spile/rounding.words", "math/bits.divideError", "math/bits.overflowError"], apart := false, laid := [("spile/rounding.words", laid_spile_rounding_words)] }
def GaugeFinerSaid : Prop := gaugeFinerRow.holds Tryd.pinned (OpenSpec.ofChange gaugeFinerSpec)

/-- ITS FALSE NEIGHBOUR: 'it returns false'. Refute it at one input. -/
def gaugeFinerWrong : ChangeSpec := { name := "gaugeFiner", fn := fun _ => fun
  | [d1, d2, d3] => { results := [.lit (.bool false)], args := [d1, d2, d3] }
  | _ => none }
def GaugeFinerWrongFalsely : Prop := gaugeFinerRow.holds Tryd.pinned (OpenSpec.ofChange gaugeFinerWrong)

/-- 'spilelaw15.GaugeTogether': WHATEVER THE INPUT: true; the input reads as it did. -/
def gaugeTogetherSpec : ChangeSpec := { name := "gaugeTogether", fn := fun _ => fun
  | [d] => { results := [.lit (.bool true)], args := [d] }
  | _ => none }
def gaugeTogetherRow : OpenClaim := { program := "ytdpkochkpcjioabdoor", sum := "7a35a2774b5424f3438ce5054940108b9c06f3569e0983633f93e10ad73ad53b", func := "spile/spilelaw15.GaugeTogether", spec := "gaugeTogether", unfollowed := true, recurses := true, named := ["spile/rounding.words", "math/bits.divideError", "math/bits.overflowError"], apart := false, laid := [("spile/rounding.words", laid_spile_rounding_words)] }
def GaugeTogetherSaid : Prop := gaugeTogetherRow.holds Tryd.pinned (OpenSpec.ofChange gaugeTogetherSpec)

/-- ITS FALSE NEIGHBOUR: 'it returns false'. Refute it at one input. -/
def gaugeTogetherWrong : ChangeSpec := { name := "gaugeTogether", fn := fun _ => fun
  | [d] => { results := [.lit (.bool false)], args := [d] }
  | _ => none }
def GaugeTogetherWrongFalsely : Prop := gaugeTogetherRow.holds Tryd.pinned (OpenSpec.ofChange gaugeTogetherWrong)

/-- 'spilelaw15.GaugeAnswers': WHATEVER THE INPUT: true; the input reads as it did. -/
def gaugeAnswersSpec : ChangeSpec := { name := "gaugeAnswers", fn := fun _ => fun
  | [d1, d2] => { results := [.lit (.bool true)], args := [d1, d2] }
  | _ => none }
def gaugeAnswersRow : OpenClaim := { program := "ytdpkochkpcjioabdoor", sum := "7a35a2774b5424f3438ce5054940108b9c06f3569e0983633f93e10ad73ad53b", func := "spile/spilelaw15.GaugeAnswers", spec := "gaugeAnswers", unfollowed := true, recurses := true, named := ["spile/rounding.words", "math/bits.divideError", "math/bits.overflowError"], apart := false, laid := [("spile/rounding.words", laid_spile_rounding_words)] }
def GaugeAnswersSaid : Prop := gaugeAnswersRow.holds Tryd.pinned (OpenSpec.ofChange gaugeAnswersSpec)

/-- ITS FALSE NEIGHBOUR: 'it returns false'. Refute it at one input. -/
def gaugeAnswersWrong : ChangeSpec := { name := "gaugeAnswers", fn := fun _ => fun
  | [d1, d2] => { results := [.lit (.bool false)], args := [d1, d2] }
  | _ => none }
def GaugeAnswersWrongFalsely : Prop := gaugeAnswersRow.holds Tryd.pinned (OpenSpec.ofChange gaugeAnswersWrong)

/-- 'spilelaw16.DensityChecks': WHATEVER THE INPUT: true; the input reads as it did. -/
def densityChecksSpec : ChangeSpec := { name := "densityChecks", fn := fun _ => fun
  | [d1, d2, d3] => { results := [.lit (.bool true)], args := [d1, d2, d3] }
  | _ => none }
def densityChecksRow : OpenClaim := { program := "ytdpkochkpcjioabdoor", sum := "7a35a2774b5424f3438ce5054940108b9c06f3569e0983633f93e10ad73ad53b", func := "spile/spilelaw16.DensityChecks", spec := "densityChecks", inPlace := ["slices.overlaps[spile/api.Grade]", "internal/abi.NoEscape"], unfollowed := true, recurses := true, named := ["internal/strconv.uint64pow10", "math/bits.deBruijn32tab", "math/bits.deBruijn64tab"], apart := false, laid := [("math/bits.deBruijn32tab", laid_math_bits_deBruijn32tab), ("math/bits.deBruijn64tab", laid_math_bits_deBruijn64tab), ("internal/strconv.uint64pow10", laid_internal_strconv_uint64pow10)] }
def DensityChecksSaid : Prop := densityChecksRow.holds Tryd.pinned (OpenSpec.ofChange densityChecksSpec)

/-- ITS FALSE NEIGHBOUR: 'it returns false'. Refute it at one input. -/
def densityChecksWrong : ChangeSpec := { name := "densityChecks", fn := fun _ => fun
  | [d1, d2, d3] => { results := [.lit (.bool false)], args := [d1, d2, d3] }
  | _ => none }
def DensityChecksWrongFalsely : Prop := densityChecksRow.holds Tryd.pinned (OpenSpec.ofChange densityChecksWrong)

/- THE SECOND FORM. 'bulk': how many values and letters a reading holds, each counted each time it is reached (what is shared counts as often as it is met; a slice's spare places count too). A statement '..UptoSaid' is the law's where the arguments, and the package variables that the reading takes, are together of bulk at most 1048576: NARROWER than '..Said'. Prove '..Said' where nothing that the law and all that it calls make is longer than what came in: it says more and counts as full. Else prove '..UptoSaid'. A law counts once. -/
mutual
def uptoBulk {H : Type} : DataW H → Nat
  | .lit (.string bytes) => bytes.length + 1
  | .lit _ => 1
  | .nil => 1
  | .ptr d => uptoBulk d + 1
  | .slice elems spare => uptoBulkAll elems + uptoBulkAll spare + 1
  | .agg parts => uptoBulkAll parts + 1
  | .iface _ d => uptoBulk d + 1
  | .map entries => uptoBulkEntries entries + 1
  | .held _ => 1
def uptoBulkAll {H : Type} : List (DataW H) → Nat
  | [] => 0
  | d :: r => uptoBulk d + uptoBulkAll r
def uptoBulkEntries {H : Type} : List (Lit × DataW H) → Nat
  | [] => 0
  | x :: r => uptoBulkEntry x + uptoBulkEntries r
def uptoBulkEntry {H : Type} : Lit × DataW H → Nat
  | (.string bytes, d) => bytes.length + uptoBulk d + 1
  | (_, d) => uptoBulk d + 1
 end
def uptoSmall : (H : Type) → List (DataW H) → Bool := fun _ ds => decide (uptoBulkAll ds ≤ 1048576)
def OpenSpec.upto (s : _root_.Go.ChangeSpec) : _root_.Go.OpenSpec := { _root_.Go.OpenSpec.ofChange s with cond := some uptoSmall }

/-- 'spilelaw15.GaugeReports', WHERE WHAT IT READS IS OF BULK AT MOST 1048576: true; the input reads as it did. -/
def gaugeReportsUptoRow : OpenClaim := { program := "ytdpkochkpcjioabdoor", sum := "7a35a2774b5424f3438ce5054940108b9c06f3569e0983633f93e10ad73ad53b", func := "spile/spilelaw15.GaugeReports", spec := "gaugeReports", unfollowed := true, recurses := true, named := ["spile/rounding.words", "math/bits.divideError", "math/bits.overflowError"], apart := false, laid := [("spile/rounding.words", laid_spile_rounding_words)], narrowed := true }
def GaugeReportsUptoSaid : Prop := gaugeReportsUptoRow.holds Tryd.pinned (OpenSpec.upto gaugeReportsSpec)

/-- 'spilelaw15.GaugeLists', WHERE WHAT IT READS IS OF BULK AT MOST 1048576: true; the input reads as it did. -/
def gaugeListsUptoRow : OpenClaim := { program := "ytdpkochkpcjioabdoor", sum := "7a35a2774b5424f3438ce5054940108b9c06f3569e0983633f93e10ad73ad53b", func := "spile/spilelaw15.GaugeLists", spec := "gaugeLists", unfollowed := true, recurses := true, named := ["spile/rounding.words", "math/bits.divideError", "math/bits.overflowError"], apart := false, laid := [("spile/rounding.words", laid_spile_rounding_words)], narrowed := true }
def GaugeListsUptoSaid : Prop := gaugeListsUptoRow.holds Tryd.pinned (OpenSpec.upto gaugeListsSpec)

/-- 'spilelaw15.GaugeRight', WHERE WHAT IT READS IS OF BULK AT MOST 1048576: true; the input reads as it did. -/
def gaugeRightUptoRow : OpenClaim := { program := "ytdpkochkpcjioabdoor", sum := "7a35a2774b5424f3438ce5054940108b9c06f3569e0983633f93e10ad73ad53b", func := "spile/spilelaw15.GaugeRight", spec := "gaugeRight", unfollowed := true, recurses := true, named := ["spile/rounding.words", "math/bits.divideError", "math/bits.overflowError"], apart := false, laid := [("spile/rounding.words", laid_spile_rounding_words)], narrowed := true }
def GaugeRightUptoSaid : Prop := gaugeRightUptoRow.holds Tryd.pinned (OpenSpec.upto gaugeRightSpec)

/-- 'spilelaw15.GaugeFiner', WHERE WHAT IT READS IS OF BULK AT MOST 1048576: true; the input reads as it did. -/
def gaugeFinerUptoRow : OpenClaim := { program := "ytdpkochkpcjioabdoor", sum := "7a35a2774b5424f3438ce5054940108b9c06f3569e0983633f93e10ad73ad53b", func := "spile/spilelaw15.GaugeFiner", spec := "gaugeFiner", unfollowed := true, recurses := true, named := ["spile/rounding.words", "math/bits.divideError", "math/bits.overflowError"], apart := false, laid := [("spile/rounding.words", laid_spile_rounding_words)], narrowed := true }
def GaugeFinerUptoSaid : Prop := gaugeFinerUptoRow.holds Tryd.pinned (OpenSpec.upto gaugeFinerSpec)

/-- 'spilelaw15.GaugeTogether', WHERE WHAT IT READS IS OF BULK AT MOST 1048576: true; the input reads as it did. -/
def gaugeTogetherUptoRow : OpenClaim := { program := "ytdpkochkpcjioabdoor", sum := "7a35a2774b5424f3438ce5054940108b9c06f3569e0983633f93e10ad73ad53b", func := "spile/spilelaw15.GaugeTogether", spec := "gaugeTogether", unfollowed := true, recurses := true, named := ["spile/rounding.words", "math/bits.divideError", "math/bits.overflowError"], apart := false, laid := [("spile/rounding.words", laid_spile_rounding_words)], narrowed := true }
def GaugeTogetherUptoSaid : Prop := gaugeTogetherUptoRow.holds Tryd.pinned (OpenSpec.upto gaugeTogetherSpec)

/-- 'spilelaw15.GaugeAnswers', WHERE WHAT IT READS IS OF BULK AT MOST 1048576: true; the input reads as it did. -/
def gaugeAnswersUptoRow : OpenClaim := { program := "ytdpkochkpcjioabdoor", sum := "7a35a2774b5424f3438ce5054940108b9c06f3569e0983633f93e10ad73ad53b", func := "spile/spilelaw15.GaugeAnswers", spec := "gaugeAnswers", unfollowed := true, recurses := true, named := ["spile/rounding.words", "math/bits.divideError", "math/bits.overflowError"], apart := false, laid := [("spile/rounding.words", laid_spile_rounding_words)], narrowed := true }
def GaugeAnswersUptoSaid : Prop := gaugeAnswersUptoRow.holds Tryd.pinned (OpenSpec.upto gaugeAnswersSpec)

/-- 'spilelaw16.DensityChecks', WHERE WHAT IT READS IS OF BULK AT MOST 1048576: true; the input reads as it did. -/
def densityChecksUptoRow : OpenClaim := { program := "ytdpkochkpcjioabdoor", sum := "7a35a2774b5424f3438ce5054940108b9c06f3569e0983633f93e10ad73ad53b", func := "spile/spilelaw16.DensityChecks", spec := "densityChecks", inPlace := ["slices.overlaps[spile/api.Grade]", "internal/abi.NoEscape"], unfollowed := true, recurses := true, named := ["internal/strconv.uint64pow10", "math/bits.deBruijn32tab", "math/bits.deBruijn64tab"], apart := false, laid := [("math/bits.deBruijn32tab", laid_math_bits_deBruijn32tab), ("math/bits.deBruijn64tab", laid_math_bits_deBruijn64tab), ("internal/strconv.uint64pow10", laid_internal_strconv_uint64pow10)], narrowed := true }
def DensityChecksUptoSaid : Prop := densityChecksUptoRow.holds Tryd.pinned (OpenSpec.upto densityChecksSpec)

end Rows
end Go.Proofs.YtdpkochkpcjioabDoor
