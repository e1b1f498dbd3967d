/- One byte as a text; the cells of a head. -/
import Derived.Test.YtaoadopnhphjbaaDoorPWB
namespace Go.Proofs.YtaoadopnhphjbaaDoor.Rs
open Go.RowKit Go.Lib
set_option maxRecDepth 100000 in
theorem one_str (W : World) (q : Nat) (x : Int) (h : W.heap[q]? = some (.cells #[.int .u8 x] 5 (0, 0))) : (convert 41 9 (.slice (some ⟨q, 0, none⟩) 1 1)).run Tryd.prog W = .ok (.string (strOfNums [x])) W := by
  refine run_convert_bytes_arg W 41 5 Tryd.underlying41 Tryd.underlying5 q 0 1 1 [x] rfl (fun i hi => ?_) 9 Tryd.underlying9
  rw [Nat.zero_add, cell_of_row _ _ _ _ _ _ h]
  match i, hi with
  | 0, _ => rfl
set_option maxRecDepth 100000 in
theorem four_cells {W : World} {p : Nat} {x y z u : Value} {T : TypeId} (h : W.heap[p]? = some (.cells #[x, y, z, u] T (0, 0))) :
    W.cell? ⟨p, 0, none⟩ = some x ∧ W.cell? ⟨p, 1, none⟩ = some y ∧ W.cell? ⟨p, 2, none⟩ = some z ∧ W.cell? ⟨p, 3, none⟩ = some u ∧ W.frozen? ⟨p, 0, none⟩ = false ∧ W.frozen? ⟨p, 1, none⟩ = false ∧ W.frozen? ⟨p, 2, none⟩ = false ∧ W.frozen? ⟨p, 3, none⟩ = false :=
  ⟨by rw [cell_of_row _ _ _ _ _ _ h]; rfl, by rw [cell_of_row _ _ _ _ _ _ h]; rfl, by rw [cell_of_row _ _ _ _ _ _ h]; rfl, by rw [cell_of_row _ _ _ _ _ _ h]; rfl, frozen_of_heap h 0, frozen_of_heap h 1, frozen_of_heap h 2, frozen_of_heap h 3⟩
end Go.Proofs.YtaoadopnhphjbaaDoor.Rs
