/- No library function is called by these laws: this text holds nothing. -/
import Derived.Test.YtigmpbipbkgnfabProg
namespace Go.Proofs.Ytigmpbipbkgnfab
end Go.Proofs.Ytigmpbipbkgnfab
