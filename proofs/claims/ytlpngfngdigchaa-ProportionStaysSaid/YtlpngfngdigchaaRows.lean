/-
  No cell of these rows narrows 'for every input' (looked for: loops, veiled, ifaces, maps, wideKeys, modest, calm, conditions, laid).
  DERIVED. THE GIVEN ROWS OF THIS SEAT. 5 by the template 'for every input the law returns true; each argument reads behind the call as it read before'; 0 by the template 'total and deterministic' (their statements: YtlpngfngdigchaaTotals.lean).
  GIVEN WITH THE SEED: the statements are not yours to turn. If you find one false, say at which input.
  Laid BY PROGRAM, IN A SANDBOX (cutbox-rows.mjs): the forced cells as the released guide's own fill.sh prints them over the translation 82fc9a4329ae227b… (all of the seat's roots in one cut). By AI agents, Wed Nov 11 2026. No macro, syntax, notation, axiom, sorry.
-/
import Derived.Test.YtlpngfngdigchaaChecked
import GoSem.Claim
import GoSem.ClaimJoined
import GoSem.ClaimMapViews
import Derived.JoinedTies
import Derived.KernelRfl
namespace Go.Proofs.Ytlpngfngdigchaa
/- THE CELL 'sum', in the pinned program and in every row, IS THE sha256 OF THE DUMP (.gsa) THAT YtlpngfngdigchaaProg.lean LOADS. Nothing in Lean hashes anything: it is a label: what it is worth is what the hold of that sum in a sandbox is worth. -/
noncomputable def Try.pinned : Pinned := { name := "ytlpngfngdigchaa", sum := "82fc9a4329ae227bdd1eef44e0d075e1fe9f73774f78f681db2ea8a637a576de", checked := Try.checked }
namespace Rows
def none {H : Type} : Left H := { results := [], args := [] }

/-- 'spilelaw01.ProportionExact': WHATEVER THE INPUT: true; the input reads as it did. -/
def proportionExactSpec : ChangeSpec := { name := "proportionExact", fn := fun _ => fun
  | [d] => { results := [.lit (.bool true)], args := [d] }
  | _ => none }
def proportionExactRow : OpenClaim := { program := "ytlpngfngdigchaa", sum := "82fc9a4329ae227bdd1eef44e0d075e1fe9f73774f78f681db2ea8a637a576de", func := "spile/spilelaw01.ProportionExact", spec := "proportionExact", named := ["math/bits.divideError", "math/bits.overflowError"], apart := false }
def ProportionExactSaid : Prop := proportionExactRow.holds Try.pinned (OpenSpec.ofChange proportionExactSpec)

/-- ITS FALSE NEIGHBOUR: 'it returns false'. Refute it at one input. -/
def proportionExactWrong : ChangeSpec := { name := "proportionExact", fn := fun _ => fun
  | [d] => { results := [.lit (.bool false)], args := [d] }
  | _ => none }
def ProportionExactWrongFalsely : Prop := proportionExactRow.holds Try.pinned (OpenSpec.ofChange proportionExactWrong)

/-- 'spilelaw01.ProportionBack': WHATEVER THE INPUT: true; the input reads as it did. -/
def proportionBackSpec : ChangeSpec := { name := "proportionBack", fn := fun _ => fun
  | [d1, d2, d3] => { results := [.lit (.bool true)], args := [d1, d2, d3] }
  | _ => none }
def proportionBackRow : OpenClaim := { program := "ytlpngfngdigchaa", sum := "82fc9a4329ae227bdd1eef44e0d075e1fe9f73774f78f681db2ea8a637a576de", func := "spile/spilelaw01.ProportionBack", spec := "proportionBack", inPlace := ["math/bits.Add64"], named := ["math/bits.divideError", "math/bits.overflowError"], apart := false }
def ProportionBackSaid : Prop := proportionBackRow.holds Try.pinned (OpenSpec.ofChange proportionBackSpec)

/-- ITS FALSE NEIGHBOUR: 'it returns false'. Refute it at one input. -/
def proportionBackWrong : ChangeSpec := { name := "proportionBack", fn := fun _ => fun
  | [d1, d2, d3] => { results := [.lit (.bool false)], args := [d1, d2, d3] }
  | _ => none }
def ProportionBackWrongFalsely : Prop := proportionBackRow.holds Try.pinned (OpenSpec.ofChange proportionBackWrong)

/-- 'spilelaw01.ProportionStays': WHATEVER THE INPUT: true; the input reads as it did. -/
def proportionStaysSpec : ChangeSpec := { name := "proportionStays", fn := fun _ => fun
  | [d1, d2] => { results := [.lit (.bool true)], args := [d1, d2] }
  | _ => none }
def proportionStaysRow : OpenClaim := { program := "ytlpngfngdigchaa", sum := "82fc9a4329ae227bdd1eef44e0d075e1fe9f73774f78f681db2ea8a637a576de", func := "spile/spilelaw01.ProportionStays", spec := "proportionStays", unfollowed := true, recurses := true, named := ["math/bits.divideError", "math/bits.overflowError"], apart := false }
def ProportionStaysSaid : Prop := proportionStaysRow.holds Try.pinned (OpenSpec.ofChange proportionStaysSpec)

/-- ITS FALSE NEIGHBOUR: 'it returns false'. Refute it at one input. -/
def proportionStaysWrong : ChangeSpec := { name := "proportionStays", fn := fun _ => fun
  | [d1, d2] => { results := [.lit (.bool false)], args := [d1, d2] }
  | _ => none }
def ProportionStaysWrongFalsely : Prop := proportionStaysRow.holds Try.pinned (OpenSpec.ofChange proportionStaysWrong)

/-- 'spilelaw01.ProportionScales': WHATEVER THE INPUT: true; the input reads as it did. -/
def proportionScalesSpec : ChangeSpec := { name := "proportionScales", fn := fun _ => fun
  | [d1, d2, d3] => { results := [.lit (.bool true)], args := [d1, d2, d3] }
  | _ => none }
def proportionScalesRow : OpenClaim := { program := "ytlpngfngdigchaa", sum := "82fc9a4329ae227bdd1eef44e0d075e1fe9f73774f78f681db2ea8a637a576de", func := "spile/spilelaw01.ProportionScales", spec := "proportionScales", named := ["math/bits.divideError", "math/bits.overflowError"], apart := false }
def ProportionScalesSaid : Prop := proportionScalesRow.holds Try.pinned (OpenSpec.ofChange proportionScalesSpec)

/-- ITS FALSE NEIGHBOUR: 'it returns false'. Refute it at one input. -/
def proportionScalesWrong : ChangeSpec := { name := "proportionScales", fn := fun _ => fun
  | [d1, d2, d3] => { results := [.lit (.bool false)], args := [d1, d2, d3] }
  | _ => none }
def ProportionScalesWrongFalsely : Prop := proportionScalesRow.holds Try.pinned (OpenSpec.ofChange proportionScalesWrong)

/-- 'spilelaw01.ProportionOrder': WHATEVER THE INPUT: true; the input reads as it did. -/
def proportionOrderSpec : ChangeSpec := { name := "proportionOrder", fn := fun _ => fun
  | [d] => { results := [.lit (.bool true)], args := [d] }
  | _ => none }
def proportionOrderRow : OpenClaim := { program := "ytlpngfngdigchaa", sum := "82fc9a4329ae227bdd1eef44e0d075e1fe9f73774f78f681db2ea8a637a576de", func := "spile/spilelaw01.ProportionOrder", spec := "proportionOrder", named := ["math/bits.divideError", "math/bits.overflowError"], apart := false }
def ProportionOrderSaid : Prop := proportionOrderRow.holds Try.pinned (OpenSpec.ofChange proportionOrderSpec)

/-- ITS FALSE NEIGHBOUR: 'it returns false'. Refute it at one input. -/
def proportionOrderWrong : ChangeSpec := { name := "proportionOrder", fn := fun _ => fun
  | [d] => { results := [.lit (.bool false)], args := [d] }
  | _ => none }
def ProportionOrderWrongFalsely : Prop := proportionOrderRow.holds Try.pinned (OpenSpec.ofChange proportionOrderWrong)

/- THE SECOND FORM. 'bulk': how many values and letters a reading holds, each counted each time it is reached (what is shared counts as often as it is met; a slice's spare places count too). A statement '..UptoSaid' is the law's where the arguments, and the package variables that the reading takes, are together of bulk at most 1048576: NARROWER than '..Said'. Prove '..Said' where nothing that the law and all that it calls make is longer than what came in: it says more and counts as full. Else prove '..UptoSaid'. A law counts once. -/
mutual
def uptoBulk {H : Type} : DataW H → Nat
  | .lit (.string bytes) => bytes.length + 1
  | .lit _ => 1
  | .nil => 1
  | .ptr d => uptoBulk d + 1
  | .slice elems spare => uptoBulkAll elems + uptoBulkAll spare + 1
  | .agg parts => uptoBulkAll parts + 1
  | .iface _ d => uptoBulk d + 1
  | .map entries => uptoBulkEntries entries + 1
  | .held _ => 1
def uptoBulkAll {H : Type} : List (DataW H) → Nat
  | [] => 0
  | d :: r => uptoBulk d + uptoBulkAll r
def uptoBulkEntries {H : Type} : List (Lit × DataW H) → Nat
  | [] => 0
  | x :: r => uptoBulkEntry x + uptoBulkEntries r
def uptoBulkEntry {H : Type} : Lit × DataW H → Nat
  | (.string bytes, d) => bytes.length + uptoBulk d + 1
  | (_, d) => uptoBulk d + 1
 end
def uptoSmall : (H : Type) → List (DataW H) → Bool := fun _ ds => decide (uptoBulkAll ds ≤ 1048576)
def OpenSpec.upto (s : _root_.Go.ChangeSpec) : _root_.Go.OpenSpec := { _root_.Go.OpenSpec.ofChange s with cond := some uptoSmall }

/-- 'spilelaw01.ProportionExact', WHERE WHAT IT READS IS OF BULK AT MOST 1048576: true; the input reads as it did. -/
def proportionExactUptoRow : OpenClaim := { program := "ytlpngfngdigchaa", sum := "82fc9a4329ae227bdd1eef44e0d075e1fe9f73774f78f681db2ea8a637a576de", func := "spile/spilelaw01.ProportionExact", spec := "proportionExact", named := ["math/bits.divideError", "math/bits.overflowError"], apart := false, narrowed := true }
def ProportionExactUptoSaid : Prop := proportionExactUptoRow.holds Try.pinned (OpenSpec.upto proportionExactSpec)

/-- 'spilelaw01.ProportionBack', WHERE WHAT IT READS IS OF BULK AT MOST 1048576: true; the input reads as it did. -/
def proportionBackUptoRow : OpenClaim := { program := "ytlpngfngdigchaa", sum := "82fc9a4329ae227bdd1eef44e0d075e1fe9f73774f78f681db2ea8a637a576de", func := "spile/spilelaw01.ProportionBack", spec := "proportionBack", inPlace := ["math/bits.Add64"], named := ["math/bits.divideError", "math/bits.overflowError"], apart := false, narrowed := true }
def ProportionBackUptoSaid : Prop := proportionBackUptoRow.holds Try.pinned (OpenSpec.upto proportionBackSpec)

/-- 'spilelaw01.ProportionStays', WHERE WHAT IT READS IS OF BULK AT MOST 1048576: true; the input reads as it did. -/
def proportionStaysUptoRow : OpenClaim := { program := "ytlpngfngdigchaa", sum := "82fc9a4329ae227bdd1eef44e0d075e1fe9f73774f78f681db2ea8a637a576de", func := "spile/spilelaw01.ProportionStays", spec := "proportionStays", unfollowed := true, recurses := true, named := ["math/bits.divideError", "math/bits.overflowError"], apart := false, narrowed := true }
def ProportionStaysUptoSaid : Prop := proportionStaysUptoRow.holds Try.pinned (OpenSpec.upto proportionStaysSpec)

/-- 'spilelaw01.ProportionScales', WHERE WHAT IT READS IS OF BULK AT MOST 1048576: true; the input reads as it did. -/
def proportionScalesUptoRow : OpenClaim := { program := "ytlpngfngdigchaa", sum := "82fc9a4329ae227bdd1eef44e0d075e1fe9f73774f78f681db2ea8a637a576de", func := "spile/spilelaw01.ProportionScales", spec := "proportionScales", named := ["math/bits.divideError", "math/bits.overflowError"], apart := false, narrowed := true }
def ProportionScalesUptoSaid : Prop := proportionScalesUptoRow.holds Try.pinned (OpenSpec.upto proportionScalesSpec)

/-- 'spilelaw01.ProportionOrder', WHERE WHAT IT READS IS OF BULK AT MOST 1048576: true; the input reads as it did. -/
def proportionOrderUptoRow : OpenClaim := { program := "ytlpngfngdigchaa", sum := "82fc9a4329ae227bdd1eef44e0d075e1fe9f73774f78f681db2ea8a637a576de", func := "spile/spilelaw01.ProportionOrder", spec := "proportionOrder", named := ["math/bits.divideError", "math/bits.overflowError"], apart := false, narrowed := true }
def ProportionOrderUptoSaid : Prop := proportionOrderUptoRow.holds Try.pinned (OpenSpec.upto proportionOrderSpec)

end Rows
end Go.Proofs.Ytlpngfngdigchaa
