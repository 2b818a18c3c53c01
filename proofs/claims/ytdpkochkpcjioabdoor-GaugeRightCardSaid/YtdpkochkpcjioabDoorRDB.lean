/- Package rod: reach. -/
import Derived.Test.YtdpkochkpcjioabDoorDPE
import Derived.Test.YtdpkochkpcjioabDoorRDA
namespace Go.Proofs.YtdpkochkpcjioabDoor
open Go.RowKit

end Go.Proofs.YtdpkochkpcjioabDoor

