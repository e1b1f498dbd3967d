/- A row of four points, indexed. -/
import Derived.Test.YtofealdlgpmheaaQCC
namespace Go.Proofs.Ytofealdlgpmheaa.Rc
open Go.RowKit Go.Lib
/-- The number in a slot. -/
def natOf : Value → Nat | .int _ x => x.toNat | _ => 0
end Go.Proofs.Ytofealdlgpmheaa.Rc
