/-
  NARROWER THAN 'FOR EVERY INPUT', by the rows' own cells (each row's printed sentence says how): RoundingQuotients: laid · RoundingProducts: laid · RoundingWords: laid · RoundingNear: laid · RoundingOrder: laid · RoundingSteps: laid · RoundingTotals: laid.
  DERIVED. THE GIVEN ROWS OF THIS SEAT. 7 by the template 'for every input the law returns true; each argument reads behind the call as it read before'; 0 by the template 'total and deterministic' (their statements: YtlpngfngdigchaaDoorTotals.lean).
  GIVEN WITH THE SEED: the statements are not yours to turn. If you find one false, say at which input.
  Laid BY PROGRAM, IN A SANDBOX (cutbox-rows.mjs): the forced cells as the released guide's own fill.sh prints them over the translation 202235fbe54d1e19… (all of the seat's roots in one cut). By AI agents, Wed Nov 11 2026. No macro, syntax, notation, axiom, sorry.
-/
import Derived.Test.YtlpngfngdigchaaDoorChecked
import GoSem.Claim
import GoSem.ClaimJoined
import GoSem.ClaimMapViews
import Derived.JoinedTies
import Derived.KernelRfl
namespace Go.Proofs.YtlpngfngdigchaaDoor
/- THE CELL 'sum', in the pinned program and in every row, IS THE sha256 OF THE DUMP (.gsa) THAT YtlpngfngdigchaaDoorProg.lean LOADS. Nothing in Lean hashes anything: it is a label: what it is worth is what the hold of that sum in a sandbox is worth. -/
noncomputable def Tryd.pinned : Pinned := { name := "ytlpngfngdigchaadoor", sum := "202235fbe54d1e196b0520a8fc67c56d65ca70a7eba9581e3256406b10dab13b", checked := Tryd.checked }
namespace Rows
def none {H : Type} : Left H := { results := [], args := [] }

/- WHAT THE LISTED PACKAGE-LEVEL VARIABLES READ AS WHEN THE CALL BEGINS. Each datum BY PROGRAM (the guide's laid-datum.mjs) off the statement by which the dump's own 'gosem.cut.vars' lays the variable. In a bare row this is a premise. The card (YtlpngfngdigchaaDoorCards.lean) ties it to the program's text. -/
def laid_spile_rounding_words {H : Type} : DataW H := .agg [.lit (.string []), .lit (.string [100, 111, 119, 110]), .lit (.string [117, 112]), .lit (.string [104, 97, 108, 102, 45, 117, 112]), .lit (.string [104, 97, 108, 102, 45, 101, 118, 101, 110])]

/-- 'spilelaw02.RoundingQuotients': WHATEVER THE INPUT: true; the input reads as it did. -/
def roundingQuotientsSpec : ChangeSpec := { name := "roundingQuotients", fn := fun _ => fun
  | [d1, d2, d3] => { results := [.lit (.bool true)], args := [d1, d2, d3] }
  | _ => none }
def roundingQuotientsRow : OpenClaim := { program := "ytlpngfngdigchaadoor", sum := "202235fbe54d1e196b0520a8fc67c56d65ca70a7eba9581e3256406b10dab13b", func := "spile/spilelaw02.RoundingQuotients", spec := "roundingQuotients", unfollowed := true, recurses := true, named := ["math/bits.divideError", "math/bits.overflowError", "spile/rounding.words"], apart := false, laid := [("spile/rounding.words", laid_spile_rounding_words)] }
def RoundingQuotientsSaid : Prop := roundingQuotientsRow.holds Tryd.pinned (OpenSpec.ofChange roundingQuotientsSpec)

/-- ITS FALSE NEIGHBOUR: 'it returns false'. Refute it at one input. -/
def roundingQuotientsWrong : ChangeSpec := { name := "roundingQuotients", fn := fun _ => fun
  | [d1, d2, d3] => { results := [.lit (.bool false)], args := [d1, d2, d3] }
  | _ => none }
def RoundingQuotientsWrongFalsely : Prop := roundingQuotientsRow.holds Tryd.pinned (OpenSpec.ofChange roundingQuotientsWrong)

/-- 'spilelaw02.RoundingProducts': WHATEVER THE INPUT: true; the input reads as it did. -/
def roundingProductsSpec : ChangeSpec := { name := "roundingProducts", fn := fun _ => fun
  | [d1, d2] => { results := [.lit (.bool true)], args := [d1, d2] }
  | _ => none }
def roundingProductsRow : OpenClaim := { program := "ytlpngfngdigchaadoor", sum := "202235fbe54d1e196b0520a8fc67c56d65ca70a7eba9581e3256406b10dab13b", func := "spile/spilelaw02.RoundingProducts", spec := "roundingProducts", unfollowed := true, recurses := true, named := ["math/bits.divideError", "math/bits.overflowError", "spile/rounding.words"], apart := false, laid := [("spile/rounding.words", laid_spile_rounding_words)] }
def RoundingProductsSaid : Prop := roundingProductsRow.holds Tryd.pinned (OpenSpec.ofChange roundingProductsSpec)

/-- ITS FALSE NEIGHBOUR: 'it returns false'. Refute it at one input. -/
def roundingProductsWrong : ChangeSpec := { name := "roundingProducts", fn := fun _ => fun
  | [d1, d2] => { results := [.lit (.bool false)], args := [d1, d2] }
  | _ => none }
def RoundingProductsWrongFalsely : Prop := roundingProductsRow.holds Tryd.pinned (OpenSpec.ofChange roundingProductsWrong)

/-- 'spilelaw02.RoundingWords': WHATEVER THE INPUT: true; the input reads as it did. -/
def roundingWordsSpec : ChangeSpec := { name := "roundingWords", fn := fun _ => fun
  | [d1, d2, d3, d4] => { results := [.lit (.bool true)], args := [d1, d2, d3, d4] }
  | _ => none }
def roundingWordsRow : OpenClaim := { program := "ytlpngfngdigchaadoor", sum := "202235fbe54d1e196b0520a8fc67c56d65ca70a7eba9581e3256406b10dab13b", func := "spile/spilelaw02.RoundingWords", spec := "roundingWords", unfollowed := true, recurses := true, named := ["math/bits.divideError", "math/bits.overflowError", "spile/rounding.words"], apart := false, laid := [("spile/rounding.words", laid_spile_rounding_words)] }
def RoundingWordsSaid : Prop := roundingWordsRow.holds Tryd.pinned (OpenSpec.ofChange roundingWordsSpec)

/-- ITS FALSE NEIGHBOUR: 'it returns false'. Refute it at one input. -/
def roundingWordsWrong : ChangeSpec := { name := "roundingWords", fn := fun _ => fun
  | [d1, d2, d3, d4] => { results := [.lit (.bool false)], args := [d1, d2, d3, d4] }
  | _ => none }
def RoundingWordsWrongFalsely : Prop := roundingWordsRow.holds Tryd.pinned (OpenSpec.ofChange roundingWordsWrong)

/-- 'spilelaw02.RoundingNear': WHATEVER THE INPUT: true; the input reads as it did. -/
def roundingNearSpec : ChangeSpec := { name := "roundingNear", fn := fun _ => fun
  | [d1, d2, d3] => { results := [.lit (.bool true)], args := [d1, d2, d3] }
  | _ => none }
def roundingNearRow : OpenClaim := { program := "ytlpngfngdigchaadoor", sum := "202235fbe54d1e196b0520a8fc67c56d65ca70a7eba9581e3256406b10dab13b", func := "spile/spilelaw02.RoundingNear", spec := "roundingNear", unfollowed := true, recurses := true, named := ["math/bits.divideError", "math/bits.overflowError", "spile/rounding.words"], apart := false, laid := [("spile/rounding.words", laid_spile_rounding_words)] }
def RoundingNearSaid : Prop := roundingNearRow.holds Tryd.pinned (OpenSpec.ofChange roundingNearSpec)

/-- ITS FALSE NEIGHBOUR: 'it returns false'. Refute it at one input. -/
def roundingNearWrong : ChangeSpec := { name := "roundingNear", fn := fun _ => fun
  | [d1, d2, d3] => { results := [.lit (.bool false)], args := [d1, d2, d3] }
  | _ => none }
def RoundingNearWrongFalsely : Prop := roundingNearRow.holds Tryd.pinned (OpenSpec.ofChange roundingNearWrong)

/-- 'spilelaw02.RoundingOrder': WHATEVER THE INPUT: true; the input reads as it did. -/
def roundingOrderSpec : ChangeSpec := { name := "roundingOrder", fn := fun _ => fun
  | [d1, d2, d3, d4] => { results := [.lit (.bool true)], args := [d1, d2, d3, d4] }
  | _ => none }
def roundingOrderRow : OpenClaim := { program := "ytlpngfngdigchaadoor", sum := "202235fbe54d1e196b0520a8fc67c56d65ca70a7eba9581e3256406b10dab13b", func := "spile/spilelaw02.RoundingOrder", spec := "roundingOrder", unfollowed := true, recurses := true, named := ["math/bits.divideError", "math/bits.overflowError", "spile/rounding.words"], apart := false, laid := [("spile/rounding.words", laid_spile_rounding_words)] }
def RoundingOrderSaid : Prop := roundingOrderRow.holds Tryd.pinned (OpenSpec.ofChange roundingOrderSpec)

/-- ITS FALSE NEIGHBOUR: 'it returns false'. Refute it at one input. -/
def roundingOrderWrong : ChangeSpec := { name := "roundingOrder", fn := fun _ => fun
  | [d1, d2, d3, d4] => { results := [.lit (.bool false)], args := [d1, d2, d3, d4] }
  | _ => none }
def RoundingOrderWrongFalsely : Prop := roundingOrderRow.holds Tryd.pinned (OpenSpec.ofChange roundingOrderWrong)

/-- 'spilelaw02.RoundingSteps': WHATEVER THE INPUT: true; the input reads as it did. -/
def roundingStepsSpec : ChangeSpec := { name := "roundingSteps", fn := fun _ => fun
  | [d1, d2, d3] => { results := [.lit (.bool true)], args := [d1, d2, d3] }
  | _ => none }
def roundingStepsRow : OpenClaim := { program := "ytlpngfngdigchaadoor", sum := "202235fbe54d1e196b0520a8fc67c56d65ca70a7eba9581e3256406b10dab13b", func := "spile/spilelaw02.RoundingSteps", spec := "roundingSteps", unfollowed := true, recurses := true, named := ["math/bits.divideError", "math/bits.overflowError", "spile/rounding.words"], apart := false, laid := [("spile/rounding.words", laid_spile_rounding_words)] }
def RoundingStepsSaid : Prop := roundingStepsRow.holds Tryd.pinned (OpenSpec.ofChange roundingStepsSpec)

/-- ITS FALSE NEIGHBOUR: 'it returns false'. Refute it at one input. -/
def roundingStepsWrong : ChangeSpec := { name := "roundingSteps", fn := fun _ => fun
  | [d1, d2, d3] => { results := [.lit (.bool false)], args := [d1, d2, d3] }
  | _ => none }
def RoundingStepsWrongFalsely : Prop := roundingStepsRow.holds Tryd.pinned (OpenSpec.ofChange roundingStepsWrong)

/-- 'spilelaw02.RoundingTotals': WHATEVER THE INPUT: true; the input reads as it did. -/
def roundingTotalsSpec : ChangeSpec := { name := "roundingTotals", fn := fun _ => fun
  | [d1, d2, d3] => { results := [.lit (.bool true)], args := [d1, d2, d3] }
  | _ => none }
def roundingTotalsRow : OpenClaim := { program := "ytlpngfngdigchaadoor", sum := "202235fbe54d1e196b0520a8fc67c56d65ca70a7eba9581e3256406b10dab13b", func := "spile/spilelaw02.RoundingTotals", spec := "roundingTotals", unfollowed := true, recurses := true, named := ["math/bits.divideError", "math/bits.overflowError", "spile/rounding.words"], apart := false, laid := [("spile/rounding.words", laid_spile_rounding_words)] }
def RoundingTotalsSaid : Prop := roundingTotalsRow.holds Tryd.pinned (OpenSpec.ofChange roundingTotalsSpec)

/-- ITS FALSE NEIGHBOUR: 'it returns false'. Refute it at one input. -/
def roundingTotalsWrong : ChangeSpec := { name := "roundingTotals", fn := fun _ => fun
  | [d1, d2, d3] => { results := [.lit (.bool false)], args := [d1, d2, d3] }
  | _ => none }
def RoundingTotalsWrongFalsely : Prop := roundingTotalsRow.holds Tryd.pinned (OpenSpec.ofChange roundingTotalsWrong)

/- THE SECOND FORM. 'bulk': how many values and letters a reading holds, each counted each time it is reached (what is shared counts as often as it is met; a slice's spare places count too). A statement '..UptoSaid' is the law's where the arguments, and the package variables that the reading takes, are together of bulk at most 1048576: NARROWER than '..Said'. Prove '..Said' where nothing that the law and all that it calls make is longer than what came in: it says more and counts as full. Else prove '..UptoSaid'. A law counts once. -/
mutual
def uptoBulk {H : Type} : DataW H → Nat
  | .lit (.string bytes) => bytes.length + 1
  | .lit _ => 1
  | .nil => 1
  | .ptr d => uptoBulk d + 1
  | .slice elems spare => uptoBulkAll elems + uptoBulkAll spare + 1
  | .agg parts => uptoBulkAll parts + 1
  | .iface _ d => uptoBulk d + 1
  | .map entries => uptoBulkEntries entries + 1
  | .held _ => 1
def uptoBulkAll {H : Type} : List (DataW H) → Nat
  | [] => 0
  | d :: r => uptoBulk d + uptoBulkAll r
def uptoBulkEntries {H : Type} : List (Lit × DataW H) → Nat
  | [] => 0
  | x :: r => uptoBulkEntry x + uptoBulkEntries r
def uptoBulkEntry {H : Type} : Lit × DataW H → Nat
  | (.string bytes, d) => bytes.length + uptoBulk d + 1
  | (_, d) => uptoBulk d + 1
 end
def uptoSmall : (H : Type) → List (DataW H) → Bool := fun _ ds => decide (uptoBulkAll ds ≤ 1048576)
def OpenSpec.upto (s : _root_.Go.ChangeSpec) : _root_.Go.OpenSpec := { _root_.Go.OpenSpec.ofChange s with cond := some uptoSmall }

/-- 'spilelaw02.RoundingQuotients', WHERE WHAT IT READS IS OF BULK AT MOST 1048576: true; the input reads as it did. -/
def roundingQuotientsUptoRow : OpenClaim := { program := "ytlpngfngdigchaadoor", sum := "202235fbe54d1e196b0520a8fc67c56d65ca70a7eba9581e3256406b10dab13b", func := "spile/spilelaw02.RoundingQuotients", spec := "roundingQuotients", unfollowed := true, recurses := true, named := ["math/bits.divideError", "math/bits.overflowError", "spile/rounding.words"], apart := false, laid := [("spile/rounding.words", laid_spile_rounding_words)], narrowed := true }
def RoundingQuotientsUptoSaid : Prop := roundingQuotientsUptoRow.holds Tryd.pinned (OpenSpec.upto roundingQuotientsSpec)

/-- 'spilelaw02.RoundingProducts', WHERE WHAT IT READS IS OF BULK AT MOST 1048576: true; the input reads as it did. -/
def roundingProductsUptoRow : OpenClaim := { program := "ytlpngfngdigchaadoor", sum := "202235fbe54d1e196b0520a8fc67c56d65ca70a7eba9581e3256406b10dab13b", func := "spile/spilelaw02.RoundingProducts", spec := "roundingProducts", unfollowed := true, recurses := true, named := ["math/bits.divideError", "math/bits.overflowError", "spile/rounding.words"], apart := false, laid := [("spile/rounding.words", laid_spile_rounding_words)], narrowed := true }
def RoundingProductsUptoSaid : Prop := roundingProductsUptoRow.holds Tryd.pinned (OpenSpec.upto roundingProductsSpec)

/-- 'spilelaw02.RoundingWords', WHERE WHAT IT READS IS OF BULK AT MOST 1048576: true; the input reads as it did. -/
def roundingWordsUptoRow : OpenClaim := { program := "ytlpngfngdigchaadoor", sum := "202235fbe54d1e196b0520a8fc67c56d65ca70a7eba9581e3256406b10dab13b", func := "spile/spilelaw02.RoundingWords", spec := "roundingWords", unfollowed := true, recurses := true, named := ["math/bits.divideError", "math/bits.overflowError", "spile/rounding.words"], apart := false, laid := [("spile/rounding.words", laid_spile_rounding_words)], narrowed := true }
def RoundingWordsUptoSaid : Prop := roundingWordsUptoRow.holds Tryd.pinned (OpenSpec.upto roundingWordsSpec)

/-- 'spilelaw02.RoundingNear', WHERE WHAT IT READS IS OF BULK AT MOST 1048576: true; the input reads as it did. -/
def roundingNearUptoRow : OpenClaim := { program := "ytlpngfngdigchaadoor", sum := "202235fbe54d1e196b0520a8fc67c56d65ca70a7eba9581e3256406b10dab13b", func := "spile/spilelaw02.RoundingNear", spec := "roundingNear", unfollowed := true, recurses := true, named := ["math/bits.divideError", "math/bits.overflowError", "spile/rounding.words"], apart := false, laid := [("spile/rounding.words", laid_spile_rounding_words)], narrowed := true }
def RoundingNearUptoSaid : Prop := roundingNearUptoRow.holds Tryd.pinned (OpenSpec.upto roundingNearSpec)

/-- 'spilelaw02.RoundingOrder', WHERE WHAT IT READS IS OF BULK AT MOST 1048576: true; the input reads as it did. -/
def roundingOrderUptoRow : OpenClaim := { program := "ytlpngfngdigchaadoor", sum := "202235fbe54d1e196b0520a8fc67c56d65ca70a7eba9581e3256406b10dab13b", func := "spile/spilelaw02.RoundingOrder", spec := "roundingOrder", unfollowed := true, recurses := true, named := ["math/bits.divideError", "math/bits.overflowError", "spile/rounding.words"], apart := false, laid := [("spile/rounding.words", laid_spile_rounding_words)], narrowed := true }
def RoundingOrderUptoSaid : Prop := roundingOrderUptoRow.holds Tryd.pinned (OpenSpec.upto roundingOrderSpec)

/-- 'spilelaw02.RoundingSteps', WHERE WHAT IT READS IS OF BULK AT MOST 1048576: true; the input reads as it did. -/
def roundingStepsUptoRow : OpenClaim := { program := "ytlpngfngdigchaadoor", sum := "202235fbe54d1e196b0520a8fc67c56d65ca70a7eba9581e3256406b10dab13b", func := "spile/spilelaw02.RoundingSteps", spec := "roundingSteps", unfollowed := true, recurses := true, named := ["math/bits.divideError", "math/bits.overflowError", "spile/rounding.words"], apart := false, laid := [("spile/rounding.words", laid_spile_rounding_words)], narrowed := true }
def RoundingStepsUptoSaid : Prop := roundingStepsUptoRow.holds Tryd.pinned (OpenSpec.upto roundingStepsSpec)

/-- 'spilelaw02.RoundingTotals', WHERE WHAT IT READS IS OF BULK AT MOST 1048576: true; the input reads as it did. -/
def roundingTotalsUptoRow : OpenClaim := { program := "ytlpngfngdigchaadoor", sum := "202235fbe54d1e196b0520a8fc67c56d65ca70a7eba9581e3256406b10dab13b", func := "spile/spilelaw02.RoundingTotals", spec := "roundingTotals", unfollowed := true, recurses := true, named := ["math/bits.divideError", "math/bits.overflowError", "spile/rounding.words"], apart := false, laid := [("spile/rounding.words", laid_spile_rounding_words)], narrowed := true }
def RoundingTotalsUptoSaid : Prop := roundingTotalsUptoRow.holds Tryd.pinned (OpenSpec.upto roundingTotalsSpec)

end Rows
end Go.Proofs.YtlpngfngdigchaaDoor
