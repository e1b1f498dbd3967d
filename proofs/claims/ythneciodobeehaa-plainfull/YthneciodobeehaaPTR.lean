/- The reference's rows without one of an id, and with another one in its place. -/
import Derived.Test.YthneciodobeehaaPTC
import Derived.Test.YthneciodobeehaaPGC
import Derived.Test.YthneciodobeehaaPTI
namespace Go.Proofs.Ythneciodobeehaa.Rp
open Go.RowKit Go.Lib
open Go.Proofs.Ythneciodobeehaa.Rc Go.Proofs.Ythneciodobeehaa.Rq
set_option maxRecDepth 100000 in
theorem app_row (w : World) (B n : Nat) (po : Option Addr) (pc : Nat) (m : List Rw) (r : Rw) (ho : w.ownsRow B 27 4 (.slice po n pc) n (m.flatMap rc)) (hB : B ≤ w.heap.size) (hn : n ≤ 5000) :
    ∃ o' c' W', (Builtin.append_ #[22, 22] 22 #[.slice po n pc, .slice (some ⟨w.heap.size, 0, none⟩) 1 1]).run Try.prog (w.alloc (.cells #[.int .u64 (r.id : Int), .int .u32 (r.x : Int), .int .u32 (r.y : Int), .string r.v] 27)) = .ok (.slice o' (n + 1) c') W' ∧ W'.ownsRow B 27 4 (.slice o' (n + 1) c') (n + 1) ((m ++ [r]).flatMap rc) ∧ Below B w W' := by
  have hbn := below_new w (.cells #[.int .u64 (r.id : Int), .int .u32 (r.x : Int), .int .u32 (r.y : Int), .string r.v] 27)
  obtain ⟨v', W', hrun, a1, a2, a3⟩ := append_sl 22 27 Try.underlying22 infoRow rfl (by decide) (by decide) (w.alloc (.cells #[.int .u64 (r.id : Int), .int .u32 (r.x : Int), .int .u32 (r.y : Int), .string r.v] 27)) B n 1 (.slice po n pc) (some ⟨w.heap.size, 0, none⟩) 1
    (m.flatMap rc) (rc r) (own_same ho fun b _ hb' => hbn.block b hb') (by simp; omega) (one_row (r := r) (heap_alloc_new w _)) (rc_one' _) (by omega)
  obtain ⟨o', c', rfl, -⟩ := sl_of_own a1
  refine ⟨o', c', W', hrun, ?_, ?_⟩
  · rw [List.flatMap_append]
    simpa using a1
  · exact ((Below.refl B w).trans (hbn.mono hB)).grown a2 (by simp; omega) fun b eb => (own_base ho eb).1
end Go.Proofs.Ythneciodobeehaa.Rp
