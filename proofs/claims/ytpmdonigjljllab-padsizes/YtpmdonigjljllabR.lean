/- Two closed facts of the program. -/
import Derived.Test.YtpmdonigjljllabRows
import Derived.ProofKit
import Derived.OpenShut
namespace Go.Proofs.Ytpmdonigjljllab
theorem own : ownKnob Try.prog.godebug = none := by kernel_rfl
theorem laidOut : laidOutB Try.prog = true := by kernel_rfl
end Go.Proofs.Ytpmdonigjljllab
