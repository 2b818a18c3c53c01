/- Copies of marks; few marks. -/
import Derived.Test.YtdpkochkpcjioabDoorRDC
import Derived.Test.YtdpkochkpcjioabDoorDPD
import Derived.ProofKit
import Derived.OpenShut
import Derived.Lib.SmallJoins
import Derived.Deep.RegionHeld3
namespace Go.Proofs.YtdpkochkpcjioabDoor
open Go.RowKit Go.Sort

set_option maxHeartbeats 4000000 in
theorem few13_any (v : Value) (l : List (Int × Int)) (tol : Int) (w : World) (hv : TbV w v l tol) :
    Calls Tryd.prog 11 #[v] w fun e w' => e = .returned (.bool (decide (l.length ≤ 129))) ∧ Below w.heap.size w w' := by
  obtain ⟨a, cap, rfl, _⟩ := hv
  have X := Lib.hid (bel_alloc (w := w) (o := .cells #[.slice a l.length cap, .int .i64 tol] 24) (Below.refl _ _))
  have e : decide ((l.length : Int) ≤ 129) = decide (l.length ≤ 129) := by simp; omega
  rw [← e]
  clear e
  generalize l.length = n at *
  go_enter Tryd.func11, Tryd.ntmps11
  go_wp2
  go_returns
  exact ⟨rfl, X.out⟩
end Go.Proofs.YtdpkochkpcjioabDoor

