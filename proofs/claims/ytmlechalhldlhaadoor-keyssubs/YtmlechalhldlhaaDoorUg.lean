/- The document's example; equal texts. -/
import Derived.Test.YtmlechalhldlhaaDoorUe
import Derived.RegionTactic
namespace Go.Proofs.YtmlechalhldlhaaDoor
open Go.RowKit Go.Lib
/-- The mac of texts in a new block. -/
theorem mac_new (Kt : Nat → Int) (key : ByteArray) (hk : key.size ≤ 1000000) (n : Nat) (hn : n ≤ 1000) (cs : Array Value) (T : TypeId) (ts : Nat → ByteArray) (C : ByteArray) (hC : catS ts n = C) (hL : C.size ≤ 1000000000) (hc : ∀ i, i < n → cs[i]? = some (.string (ts i))) (w : World) {tt : TypeId} {fr : Nat × Nat} (hK : w.heap[1]? = some (.cells (w64 Kt) tt fr)) :
    Calls Tryd.prog 29 #[.string key, .slice (some ⟨w.heap.size, 0, none⟩) n n] (w.alloc (.cells cs T)) fun e w' => e = .returned (.string (macS Kt key C)) ∧ Below w.heap.size w w' := by
  have h1l : 1 < w.heap.size := (Array.getElem?_eq_some_iff.1 hK).1
  refine (mac_any Kt key hk n n (some ⟨w.heap.size, 0, none⟩) (fun h => by cases h) ts C hC (w.alloc (.cells cs T)) (((below_new w _).block 1 h1l).trans hK) hL (by omega) fun i hi => ⟨w.heap.size, 0, rfl, by simp, ?_⟩).mono fun e w' ⟨h1, h2⟩ => ⟨h1, (below_new w _).trans (h2.mono (by simp))⟩
  rw [Nat.zero_add, cell_of_row _ _ _ _ _ _ (heap_alloc_new w _)]
  exact hc i hi
end Go.Proofs.YtmlechalhldlhaaDoor
