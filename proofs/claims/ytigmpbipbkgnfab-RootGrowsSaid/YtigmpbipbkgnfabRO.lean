/- How the arguments of a statement of layer 6 are opened. -/
import Derived.Test.YtigmpbipbkgnfabRows
import Derived.Test.YtigmpbipbkgnfabRA
import Derived.Test.YtigmpbipbkgnfabRRefB
import Derived.ProofKit
import Derived.OpenShut
import Derived.ShutString
import Derived.ChangeOld
namespace Go.Proofs.Ytigmpbipbkgnfab
open Go.ChangeShapes Go.WideShapes Go.ChangeAt Go.RowKit

theorem own : ownKnob Try.prog.godebug = none := by kernel_rfl
theorem laidOut : laidOutB Try.prog = true := by kernel_rfl
theorem wf_bd {n : Int} (h : (Lit.int .i64 n).wf = true) : -9223372036854775808 ≤ n ∧ n ≤ 9223372036854775807 := by
  have := bounds_i64 h
  omega
end Go.Proofs.Ytigmpbipbkgnfab
