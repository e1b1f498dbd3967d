/- What follows of cells, in plain terms. -/
import Derived.Lib.BitFns
namespace Go.Proofs.Ythneciodobeehaa.Rc
def onS (x y : Nat) : Bool := decide (x < 2147483648 ∧ y < 2147483648)
end Go.Proofs.Ythneciodobeehaa.Rc
