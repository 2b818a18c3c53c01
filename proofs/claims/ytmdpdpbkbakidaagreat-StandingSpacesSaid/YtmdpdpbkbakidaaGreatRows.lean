/-
  No cell of these rows narrows 'for every input' (looked for: loops, veiled, ifaces, maps, wideKeys, modest, calm, conditions, laid).
  DERIVED. THE GIVEN ROWS OF THIS SEAT. 2 by the template 'for every input the law returns true; each argument reads behind the call as it read before'; 0 by the template 'total and deterministic' (their statements: YtmdpdpbkbakidaaGreatTotals.lean).
  GIVEN WITH THE SEED: the statements are not yours to turn. If you find one false, say at which input.
  Laid BY PROGRAM, IN A SANDBOX (cutbox-rows.mjs): the forced cells as the released guide's own fill.sh prints them over the translation 6ff4e429efc48872… (all of the seat's roots in one cut). By AI agents, Wed Nov 11 2026. No macro, syntax, notation, axiom, sorry.
-/
import Derived.Test.YtmdpdpbkbakidaaGreatChecked
import GoSem.Claim
import GoSem.ClaimJoined
import GoSem.ClaimMapViews
import Derived.JoinedTies
import Derived.KernelRfl
namespace Go.Proofs.YtmdpdpbkbakidaaGreat
/- THE CELL 'sum', in the pinned program and in every row, IS THE sha256 OF THE DUMP (.gsa) THAT YtmdpdpbkbakidaaGreatProg.lean LOADS. Nothing in Lean hashes anything: it is a label: what it is worth is what the hold of that sum in a sandbox is worth. -/
noncomputable def Tryz.pinned : Pinned := { name := "ytmdpdpbkbakidaagreat", sum := "6ff4e429efc488722a73e3cd8624b96452822a1e7a91ad7c45d0ba8f51876b62", checked := Tryz.checked }
namespace Rows
def none {H : Type} : Left H := { results := [], args := [] }

/-- 'spilelaw12.StandingSpaces': WHATEVER THE INPUT: true; the input reads as it did. -/
def standingSpacesSpec : ChangeSpec := { name := "standingSpaces", fn := fun _ => fun
  | [d1, d2] => { results := [.lit (.bool true)], args := [d1, d2] }
  | _ => none }
def standingSpacesRow : OpenClaim := { program := "ytmdpdpbkbakidaagreat", sum := "6ff4e429efc488722a73e3cd8624b96452822a1e7a91ad7c45d0ba8f51876b62", func := "spile/spilelaw12.StandingSpaces", spec := "standingSpaces", unfollowed := true, recurses := true, named := ["math/bits.divideError", "math/bits.overflowError"], apart := false }
def StandingSpacesSaid : Prop := standingSpacesRow.holds Tryz.pinned (OpenSpec.ofChange standingSpacesSpec)

/-- ITS FALSE NEIGHBOUR: 'it returns false'. Refute it at one input. -/
def standingSpacesWrong : ChangeSpec := { name := "standingSpaces", fn := fun _ => fun
  | [d1, d2] => { results := [.lit (.bool false)], args := [d1, d2] }
  | _ => none }
def StandingSpacesWrongFalsely : Prop := standingSpacesRow.holds Tryz.pinned (OpenSpec.ofChange standingSpacesWrong)

/-- 'spilelaw12.StandingWets': WHATEVER THE INPUT: true; the input reads as it did. -/
def standingWetsSpec : ChangeSpec := { name := "standingWets", fn := fun _ => fun
  | [d1, d2, d3] => { results := [.lit (.bool true)], args := [d1, d2, d3] }
  | _ => none }
def standingWetsRow : OpenClaim := { program := "ytmdpdpbkbakidaagreat", sum := "6ff4e429efc488722a73e3cd8624b96452822a1e7a91ad7c45d0ba8f51876b62", func := "spile/spilelaw12.StandingWets", spec := "standingWets", unfollowed := true, recurses := true, named := ["math/bits.divideError", "math/bits.overflowError"], apart := false }
def StandingWetsSaid : Prop := standingWetsRow.holds Tryz.pinned (OpenSpec.ofChange standingWetsSpec)

/-- ITS FALSE NEIGHBOUR: 'it returns false'. Refute it at one input. -/
def standingWetsWrong : ChangeSpec := { name := "standingWets", fn := fun _ => fun
  | [d1, d2, d3] => { results := [.lit (.bool false)], args := [d1, d2, d3] }
  | _ => none }
def StandingWetsWrongFalsely : Prop := standingWetsRow.holds Tryz.pinned (OpenSpec.ofChange standingWetsWrong)

/- THE SECOND FORM. 'bulk': how many values and letters a reading holds, each counted each time it is reached (what is shared counts as often as it is met; a slice's spare places count too). A statement '..UptoSaid' is the law's where the arguments, and the package variables that the reading takes, are together of bulk at most 1048576: NARROWER than '..Said'. Prove '..Said' where nothing that the law and all that it calls make is longer than what came in: it says more and counts as full. Else prove '..UptoSaid'. A law counts once. -/
mutual
def uptoBulk {H : Type} : DataW H → Nat
  | .lit (.string bytes) => bytes.length + 1
  | .lit _ => 1
  | .nil => 1
  | .ptr d => uptoBulk d + 1
  | .slice elems spare => uptoBulkAll elems + uptoBulkAll spare + 1
  | .agg parts => uptoBulkAll parts + 1
  | .iface _ d => uptoBulk d + 1
  | .map entries => uptoBulkEntries entries + 1
  | .held _ => 1
def uptoBulkAll {H : Type} : List (DataW H) → Nat
  | [] => 0
  | d :: r => uptoBulk d + uptoBulkAll r
def uptoBulkEntries {H : Type} : List (Lit × DataW H) → Nat
  | [] => 0
  | x :: r => uptoBulkEntry x + uptoBulkEntries r
def uptoBulkEntry {H : Type} : Lit × DataW H → Nat
  | (.string bytes, d) => bytes.length + uptoBulk d + 1
  | (_, d) => uptoBulk d + 1
 end
def uptoSmall : (H : Type) → List (DataW H) → Bool := fun _ ds => decide (uptoBulkAll ds ≤ 1048576)
def OpenSpec.upto (s : _root_.Go.ChangeSpec) : _root_.Go.OpenSpec := { _root_.Go.OpenSpec.ofChange s with cond := some uptoSmall }

/-- 'spilelaw12.StandingSpaces', WHERE WHAT IT READS IS OF BULK AT MOST 1048576: true; the input reads as it did. -/
def standingSpacesUptoRow : OpenClaim := { program := "ytmdpdpbkbakidaagreat", sum := "6ff4e429efc488722a73e3cd8624b96452822a1e7a91ad7c45d0ba8f51876b62", func := "spile/spilelaw12.StandingSpaces", spec := "standingSpaces", unfollowed := true, recurses := true, named := ["math/bits.divideError", "math/bits.overflowError"], apart := false, narrowed := true }
def StandingSpacesUptoSaid : Prop := standingSpacesUptoRow.holds Tryz.pinned (OpenSpec.upto standingSpacesSpec)

/-- 'spilelaw12.StandingWets', WHERE WHAT IT READS IS OF BULK AT MOST 1048576: true; the input reads as it did. -/
def standingWetsUptoRow : OpenClaim := { program := "ytmdpdpbkbakidaagreat", sum := "6ff4e429efc488722a73e3cd8624b96452822a1e7a91ad7c45d0ba8f51876b62", func := "spile/spilelaw12.StandingWets", spec := "standingWets", unfollowed := true, recurses := true, named := ["math/bits.divideError", "math/bits.overflowError"], apart := false, narrowed := true }
def StandingWetsUptoSaid : Prop := standingWetsUptoRow.holds Tryz.pinned (OpenSpec.upto standingWetsSpec)

end Rows
end Go.Proofs.YtmdpdpbkbakidaaGreat
