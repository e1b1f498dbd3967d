/- The first sixty rows. -/
import Derived.Test.YthneciodobeehaaPGI
namespace Go.Proofs.Ythneciodobeehaa.Rq
open Go.RowKit Go.Lib Go.Shelf
open Go.Proofs.Ythneciodobeehaa.Rc
set_option maxRecDepth 100000 in
theorem few_any (l : List Rw) (o : Option Addr) (cap : Nat) (w : World) (hr : RowsAt w o cap l) :
    Calls Try.prog 13 #[.slice o l.length cap] w fun e w' => e = .returned (.slice o (l.take 60).length cap) ∧ w' = w := by
  obtain ⟨m, hm⟩ : ∃ m, (l.take 60).length = m := ⟨_, rfl⟩
  have hm2 : m = min 60 l.length := by rw [← hm, List.length_take]
  rw [hm]
  have hc := hr.1
  have hmin : (if (60 : Int) < (l.length : Int) then (60 : Int) else (l.length : Int)) = (m : Int) := by split <;> omega
  have hrun := fun w => run_head o l.length cap m w (by omega) hr.2.2.1
  clear hr hm hm2 hc
  go_enter Try.func13, Try.ntmps13
  go_wp2_with (refine list_min rfl 3 3 (.tmp 5) (.const (.int .i64 60)) rfl rfl rfl hmin ?_)
  go_ret
  exact ⟨rfl, rfl⟩
end Go.Proofs.Ythneciodobeehaa.Rq
