/- Two closed facts of the program. -/
import Derived.Test.YtkpfnepbnaekoaaRows
import Derived.ProofKit
import Derived.OpenShut
namespace Go.Proofs.Ytkpfnepbnaekoaa
set_option maxRecDepth 100000 in
theorem own : ownKnob Try.prog.godebug = none := by kernel_rfl
set_option maxRecDepth 100000 in
theorem laidOut : laidOutB Try.prog = true := by kernel_rfl
end Go.Proofs.Ytkpfnepbnaekoaa
