/- The reference's Apply, whatever it is given. -/
import Derived.Test.YthneciodobeehaaPTS
namespace Go.Proofs.Ythneciodobeehaa.Rp
open Go.RowKit Go.Lib
open Go.Proofs.Ythneciodobeehaa.Rc Go.Proofs.Ythneciodobeehaa.Rq
set_option maxRecDepth 100000 in
theorem its_id {l : List Rw} {id : Nat} {s : Rw} (h : its l id = some s) : s.id = id := by
  have := List.find?_some h
  simpa using this
end Go.Proofs.Ythneciodobeehaa.Rp
