/- Two closed facts of the program. -/
import Derived.Test.YtdgllokedcopjaaQ
import Derived.ProofKit
namespace Go.Proofs.Ytdgllokedcopjaa
theorem own : ownKnob Try.prog.godebug = none := by kernel_rfl
theorem laidOut : laidOutB Try.prog = true := by kernel_rfl
end Go.Proofs.Ytdgllokedcopjaa
