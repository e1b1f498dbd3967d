/- The plane, the cell around a point, corners, gaps. -/
import Derived.Test.YthneciodobeehaaPCB
import Derived.Test.YthneciodobeehaaRows
import Derived.WalkKit
import Derived.Deep.RegionHeld3
namespace Go.Proofs.Ythneciodobeehaa.Rc
open Go.RowKit Go.Lib
theorem below_new (w : World) (o : Obj) : Below w.heap.size w (w.alloc o) := (Below.refl _ w).alloc (Nat.le_refl _) _
theorem onS_true {x y : Nat} (h1 : x < 2147483648) (h2 : y < 2147483648) : onS x y = true := decide_eq_true ⟨h1, h2⟩
theorem onS_false {x y : Nat} (h : ¬ (x < 2147483648 ∧ y < 2147483648)) : onS x y = false := decide_eq_false h
end Go.Proofs.Ythneciodobeehaa.Rc
