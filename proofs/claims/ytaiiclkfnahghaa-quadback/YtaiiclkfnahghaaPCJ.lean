/- A row of four points, indexed. -/
import Derived.Test.YtaiiclkfnahghaaPCH
namespace Go.Proofs.Ytaiiclkfnahghaa.Rc
open Go.RowKit Go.Lib
/-- The number in a slot. -/
def natOf : Value → Nat | .int _ x => x.toNat | _ => 0
set_option maxRecDepth 100000 in
theorem ix0 (a b c d e f g h : Value) (w : World) : (Instr.index 119 (.agg #[a, b, c, d, e, f, g, h]) (.int .i64 0)).run Try.prog w = .ok (.agg #[a, b]) w := by kernel_rfl
set_option maxRecDepth 100000 in
theorem ix1 (a b c d e f g h : Value) (w : World) : (Instr.index 119 (.agg #[a, b, c, d, e, f, g, h]) (.int .i64 1)).run Try.prog w = .ok (.agg #[c, d]) w := by kernel_rfl
set_option maxRecDepth 100000 in
theorem ix2 (a b c d e f g h : Value) (w : World) : (Instr.index 119 (.agg #[a, b, c, d, e, f, g, h]) (.int .i64 2)).run Try.prog w = .ok (.agg #[e, f]) w := by kernel_rfl
set_option maxRecDepth 100000 in
theorem ix3 (a b c d e f g h : Value) (w : World) : (Instr.index 119 (.agg #[a, b, c, d, e, f, g, h]) (.int .i64 3)).run Try.prog w = .ok (.agg #[g, h]) w := by kernel_rfl
end Go.Proofs.Ytaiiclkfnahghaa.Rc
