import Derived.Test.YtdblhepahbienaaDoorK
namespace Go.Proofs.YtdblhepahbienaaDoor
open Go.RowKit
set_option maxHeartbeats 1000000 in
theorem quarters_walk (a b c d : Int) (w : World) {tt : TypeId} {fr : Nat × Nat} (hg : w.heap[0]? = some (.cells tab tt fr)) :
    Calls Tryd.prog 3 #[.int .u32 a, .int .u32 b, .int .u32 c, .int .u32 d] w fun e w' => e = .returned (.bool true) ∧ Below w.heap.size w w' := by
  go_enter Tryd.func3, Tryd.ntmps3
  go_wp2_with (go_at_call 9; refine (shown_any _ hg).mono ?_; rintro e w1 ⟨rfl, hb1⟩)
  refine (quarter_any _ _ _ _ _).mono ?_
  rintro e w2 ⟨rfl, hw2⟩
  have hb2 : Below w.heap.size w w2 := by rw [hw2]; exact hb1.alloc hb1.size _
  clear hw2 hb1
  go_wp2_with fail
  refine (rquarter_any _ _ _ _ _).mono ?_
  rintro e w3 ⟨rfl, hb3⟩
  have he4 := eq4 (qa a b c d) (qb a b c d) (qc a b c d) (qd a b c d)
  have h3 := hb2.trans (hb3.mono hb2.size)
  clear hb2 hb3
  go_wp2
  go_ret
  exact ⟨rfl, h3⟩
end Go.Proofs.YtdblhepahbienaaDoor
