/- A row of four points, indexed. -/
import Derived.Test.YtljponlfjombaaaPCE
namespace Go.Proofs.Ytljponlfjombaaa.Rc
open Go.RowKit Go.Lib
/-- The number in a slot. -/
def natOf : Value → Nat | .int _ x => x.toNat | _ => 0
end Go.Proofs.Ytljponlfjombaaa.Rc
