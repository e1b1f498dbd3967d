/- The pieces of what was found: the function that goes through them. -/
import Derived.Test.YtimdlohdmddnjaaPOK
import Derived.Test.YtimdlohdmddnjaaQJD
import Derived.Sort.LoopGhostIn
namespace Go.Proofs.Ytimdlohdmddnjaa.Rf
open Go.RowKit Go.Lib Go.Shelf
open Go.Proofs.Ytimdlohdmddnjaa.Rc Go.Proofs.Ytimdlohdmddnjaa.Rq
attribute [local go_sem] Oper.semAt_some
set_option maxRecDepth 100000 in
theorem rows_keep {W W' : World} {o : Option Addr} {cap : Nat} {F : List Rw} (h : RowsAt W o cap F) (hs : W.heap.size ≤ W'.heap.size) (hk : ∀ b off, o = some ⟨b, off, none⟩ → 0 < F.length → b < W.heap.size → W'.heap[b]? = W.heap[b]?) : RowsAt W' o cap F := by
  refine ⟨h.1, h.2.1, h.2.2.1, h.2.2.2.1, fun hn => ?_⟩
  obtain ⟨b, off, e, hlt, hc⟩ := h.2.2.2.2 hn
  exact ⟨b, off, e, Nat.lt_of_lt_of_le hlt hs, fun j u hu => (World.cell?_of_block (a := ⟨b, off + j, none⟩) (hk b off e hn hlt)).trans (hc j u hu)⟩
end Go.Proofs.Ytimdlohdmddnjaa.Rf
