/- A cell of a row. -/
import Derived.Laws.Rows
namespace Go.Proofs.YtokfnghckpgjmaaGreatDoor
open Go
theorem zr {w : World} {g j : Nat} {cs : Array Value} {t : TypeId} {fr : Nat × Nat} (hg : w.heap[g]? = some (.cells cs t fr)) : w.cell? ⟨g, j, none⟩ = cs[j]? := Go.cell_of_row w g j cs t fr hg
theorem zq : type_of% @Go.heap_alloc_new := @Go.heap_alloc_new
theorem zx : type_of% @Go.heap_setCell_same := @Go.heap_setCell_same
end Go.Proofs.YtokfnghckpgjmaaGreatDoor
